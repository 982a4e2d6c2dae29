/- The law ChooseWhole, part 3: what its proof uses, closely written. No condition. -/
import Derived.Test.YtobfgempjekjpaaMnChooseWhole2
import Derived.Test.YtobfgempjekjpaaProg
noncomputable section
set_option linter.all false
namespace Go.Ev
open Go
section
variable {P:Program} {S:Spec} {l:List CO} {t:F} {h:H} {K:F->H->Prop}
/--a literal of one element -/
theorem FA.nj {n el:Nat} {b:Bool} {o:O} {y z:V} (e1:oV o t=y) (h1:E7 y=true) (h2:cells y=[y]) (hf:B.val h.floor<=B.val h.next)
 (k:∀ h' id,AU AQ h h'->id=h.next->B.val h'.next=B.val h.next+1->DM h' id [y]->FA P S l (put n (.l id 0 0 1 1 (some 1)) t) h' K):FA P S (.mk .none (.some (AR n)) b (.mk (Ax el 1 [z] [Pt.mk 0 1 o]))::l) t h K:=by
 obtain⟨h',a1,a2,a3,a4⟩:=IT el [y] h (by show 1<2 ^ 37;decide) hf
 refine FA.op (v:=.l h.next 0 0 1 1 (some 1)) (h1:=h') (fun k=>?_) (k _ h.next a2 rfl a4 a3)
 show oK o t (Fs 0 1 (fun t cs k=>k cs) t [z] fun cs=>alloc el cs h fun id h=>k (.l id 0 0 1 cs.length (some 1)) h)=_
 rw[Aq,e1]
 unfold Fs
 rw[h1,AG,h2]
 show alloc el [y] h (fun id h=>k (.l id 0 0 1 1 (some 1)) h)=_
 rw[a1]
theorem FA.lh {n el:Nat} {b:Bool} {s x:O} {id:B} {y v:V} {xs:List V} (e1:oV s t=v) (e2:oV x t=.l id 0 0 1 1 (some 1)) (hr:Row h id 0 0 [y]) (hb:Ff h el 1 v xs) (hf:B.val h.floor<=B.val h.next) (h1:FI y=true) (hl:xs.length+1<=1048576)
 (k:∀ v' h',Ff h' el 1 v' (xs++[y])->AU (Am v) h h'->(∀ i,Am v' i->Am v i\/B.val h.next<=B.val i)->FA P S l (put n v' t) h' K):FA P S (.mk .none (.some (AR n)) b (.mk (Bn el 1 s x))::l) t h K:=by
 obtain⟨v',h',a1,a2,a3,a4⟩:=JU (vs:=[y]) (n:=1) hb hf (Nat.le_refl _) rfl (by show Bool.rec false true (FI y)=true;rw[h1]) hl
 exact FA.op (fun k=>O5 (n:=n) e1 e2 hr a1 _ k) (k v' h' a2 a3 a4)
end
theorem AU.Cv {p:B->Prop} {a b c:H} (x:AU AQ a b) (y:AU p b c) (h:∀ id,p id->B.val a.next<=B.val id):AU AQ a c:=
 ⟨y.floor.trans x.floor,Nat.le_trans x.next y.next,fun id h1 _=>(y.get id (Nat.lt_of_lt_of_le h1 x.next) fun hp=>absurd (h id hp) (Nat.not_le.2 h1)).trans (x.get id h1 fun h=>h)⟩
/--a slice of ints -/
def Il (h:H) (v:V) (xs:List Int):Prop:=Gb h v (xs.map (V.i .i64))
theorem Il.grow {h h':H} {v:V} {xs:List Int} (a:Il h v xs) (s:AU AQ h h'):Il h' v xs:=Gb.grow a s
theorem Il.len {h0:H} {v:V} {xs:List Int} (a:Il h0 v xs) (k:Nat->Bool):Pq v k=k xs.length:=by rw[Gb.len a];simp
theorem Il.idx {h0:H} {v:V} {xs:List Int} {i:Nat} (a:Il h0 v xs) (hi:i<xs.length) (k:V->Bool):Mf 1 v i k=k (.p (Fb v) (lg v) (Cf v+i) (Cg v)):=Gb.idx a (by simpa using hi) k
theorem Il.rd {h:H} {v:V} {xs:List Int} {i:Nat} (a:Il h v xs) (hi:i<xs.length) (k:V->Bool):DP h (Fb v) (lg v) (Cf v+i) (Cg v) k=k (.i .i64 (xs.getD i 0)):=
 FN a (by simp[hi]) k
/--.. of the call's own,behind 'lo' -/
structure Ib (h:H) (lo el:Nat) (v:V) (xs:List Int):Prop where
 buf:Ff h el 1 v (xs.map (V.i .i64))
 own:∀ i,Am v i->lo<=B.val i
theorem Ib.nil (h:H) (lo el:Nat):Ib h lo el .l0 []:=⟨Ff.nil h el 1,fun i hi=>by obtain⟨_,_,_,_,_,e⟩:=hi;cases e⟩
theorem Ib.grow {h h':H} {lo el:Nat} {v:V} {xs:List Int} (a:Ib h lo el v xs) (s:AU AQ h h'):Ib h' lo el v xs:=⟨a.buf.grow s,a.own⟩
/--append(v,y)with its literal -/
theorem FA.push {P:Program} {S:Spec} {l:List CO} {t:F} {h:H} {K:F->H->Prop} {n m el lo:Nat} {b b':Bool} {s o:O} {z v:V} {y:Int} {xs:List Int} (hnm:n<512) (hs:s≠.t (AR m)) (e1:oV s t=v) (e2:oV o t=.i .i64 y) (a:Ib h lo el v xs) (hf:B.val h.floor<=B.val h.next) (hlo:lo<=B.val h.next) (hl:xs.length+1<=1048576) (hm:m<512) (e3:∀ u,oV s (put m u t)=v)
 (k:∀ v' h' u,Ib h' lo el v' (xs++[y])->AU (Am v) h h'->FA P S l (put n v' (put m u t)) h' K):
 FA P S (.mk .none (.some (AR m)) b (.mk (Ax el 1 [z] [Pt.mk 0 1 o]))::.mk .none (.some (AR n)) b' (.mk (Bn el 1 s (.t (AR m))))::l) t h K:=by
 refine FA.nj e2 rfl rfl hf fun h1 id s1 e n1 o1=>?_
 refine FA.lh (e3 _) (by rw[XU,O8 _ _ _ _ hm hm,if_pos rfl]) o1.row (a.buf.grow s1) (s1.fl hf) rfl (by simpa using hl) fun v' h' b1 s2 hv=>?_
 refine k v' h' _ ⟨by simpa using b1,fun i hi=>?_⟩ ?_
 ·rcases hv i hi with h2|h2
  ·exact a.own i h2
  ·have:=s1.next;omega
 ·refine⟨s2.floor.trans s1.floor,Nat.le_trans s1.next s2.next,fun id' h1' h2=>(s2.get id' (Nat.lt_of_lt_of_le h1' s1.next) h2).trans (s1.get id' h1' fun h=>h)⟩
end Go.Ev
namespace Go.Ev
open Go
theorem MY (z:V):∀ n,DX [z] n=List.replicate n z
 |0=>rfl
 |n+1=>by
  show z::DX [z] n=_
  rw[MY z n,List.replicate_succ]
section
variable {P:Program} {S:Spec} {l:List CO} {t:F} {h:H} {K:F->H->Prop}
end
end Go.Ev
namespace Go.Ev
open Go
/--a text,as a value -/
def sv (l:List UInt8):V:=.s l.length (pk l)
theorem cj:V.s 0 0=sv []:=rfl
theorem Cq (l:List UInt8) (k:Nat->Nat->Bool):vS (sv l) k=k l.length (pk l):=rfl
theorem Cr {z:Int} (h:0<=z) (k:Nat->Bool):A3 z k=k z.toNat:=by
 obtain⟨n,rfl⟩:=Int.eq_ofNat_of_zero_le h
 rfl
/--a byte,as a value -/
def bv (c:UInt8):V:=.i .u8 (c.toNat:Int)
theorem lH (u v w:V):one [u,v,w]=.tu [u,v,w]:=rfl
theorem jL (n m o:Nat) (t:F) (h:H) (k:List V->Bool):E5 [Rs.tmp (AR n),Rs.tmp (AR m),Rs.tmp (AR o)] t h k=k [get n t,get m t,get o t]:=by
 show Bf (Bi (AR n) t) (fun v=>Bf (Bi (AR m) t) fun u=>Bf (Bi (AR o) t) fun w=>k [v,u,w])=_
 rw[BE,BE,BE];rfl
section
variable (cf:Bk) (t:F) (h:H) (k:V->H->Bool) (o x y:O)
def Sp (a b:V) (k:V->Bool):Bool:=vS a fun la na=>vS b fun lb nb=>Ap (Nat.ble (Nat.add la lb) 1048576) fun _=>k (.s (Nat.add la lb) (Nat.add (Nat.mul na (Nat.pow 256 lb)) nb))
theorem QR:Em x y cf t h k=Sp (oV x t) (oV y t) fun v=>k v h:=by simp only[Em,AN,A2];rfl
theorem Va {a b:List UInt8} (hl:a.length+b.length<=1048576) (k:V->Bool):Sp (sv a) (sv b) k=k (sv (a++b)):=by
 have h1:Nat.ble (Nat.add a.length b.length) 1048576=true:=by rw[Nat.ble_eq];exact hl
 unfold Sp
 rw[Cq,Cq,h1,AG]
 unfold sv
 rw[List.length_append,Gi];rfl
def PX (v:V) (i:Nat) (k:V->Bool):Bool:=vS v fun l n=>Ap (Nat.ble (Nat.succ i) l) fun _=>k (.i .u8 (.ofNat (Nat.mod (Nat.div n (Nat.pow 256 (Nat.sub (Nat.sub l 1) i))) 256)))
theorem PV:Et x y cf t h k=vI (oV y t) fun _ n=>A3 n fun n=>PX (oV x t) n fun v=>k v h:=by
 have no:∀ u:V,(vI u fun _ n=>A3 n fun _=>false)=false:=by
  intro u
  cases u<;>first|rfl|(rename_i kd n;cases n<;>rfl)
 simp only[Et,AN]
 generalize oV x t=v
 generalize oV y t=u
 have hn:∀ w:V,(∀ k,vS w k=false)->(vI u fun _ n=>A3 n fun n=>PX w n fun p=>k p h)=false:=by
  intro w hw
  have:(fun(_:IntKind) (n:Int)=>A3 n fun n=>PX w n fun p=>k p h)=fun _ n=>A3 n fun _=>false:=by
   funext _ n;congr 1;funext n;exact hw _
  rw[this];exact no u
 cases v with
 |s l n=>simp only[Hv,A2];rfl
 |_=>rw[hn _ fun _=>rfl];rfl
theorem Ue {l:List UInt8} {i:Nat} (hi:i<l.length) (k:V->Bool):PX (sv l) i k=k (.i .u8 ((l.getD i 0).toNat:Int)):=by
 have h1:Nat.ble (Nat.succ i) l.length=true:=by rw[Nat.ble_eq];exact hi
 unfold PX
 rw[Cq,h1,AG]
 have e:l.getD i 0=l[i]:=by simp[List.getD,hi]
 have:=Q5 l hi
 rw[e,this]
 rfl
def PZ (v:V) (a b:Nat) (k:V->Bool):Bool:=vS v fun l n=>Ap (Nat.ble a b) fun _=>Ap (Nat.ble b l) fun _=>k (.s (Nat.sub b a) (Nat.mod (Nat.div n (Nat.pow 256 (Nat.sub l b))) (Nat.pow 256 (Nat.sub b a))))
def M8 (v:V) (a:Nat) (k:V->Bool):Bool:=vS v fun l n=>Ap (Nat.ble a l) fun _=>k (.s (Nat.sub l a) (Nat.mod (Nat.div n (Nat.pow 256 (Nat.sub l l))) (Nat.pow 256 (Nat.sub l a))))
theorem uQ (u:V):(vI u fun _ n=>A3 n fun _=>false)=false:=by
 cases u<;>first|rfl|(rename_i kd n;cases n<;>rfl)
theorem cJ (a b:O):Ci x (some a) (some b) cf t h k=vI (oV a t) fun _ p=>A3 p fun p=>vI (oV b t) fun _ q=>A3 q fun q=>PZ (oV x t) p q fun v=>k v h:=by
 simp only[Ci,AN]
 have hb:∀ (o:O) (d:Nat) (k:Nat->Bool),BV (some o) d t k=vI (oV o t) fun _ n=>A3 n k:=fun o d k=>by show oE o t _=_;rw[AN]
 simp only[hb,A2]
 generalize oV x t=v
 have hn:∀ w:V,(∀ k,vS w k=false)->(vI (oV a t) fun _ p=>A3 p fun p=>vI (oV b t) fun _ q=>A3 q fun q=>PZ w p q fun v=>k v h)=false:=by
  intro w hw
  have e2:∀ p q,PZ w p q (fun v=>k v h)=false:=fun p q=>hw _
  simp only[e2,uQ]
 cases v with
 |s l n=>simp only[Hv];rfl
 |_=>rw[hn _ fun _=>rfl];rfl
theorem Zo (b:O):Ci x none (some b) cf t h k=vI (oV b t) fun _ q=>A3 q fun q=>PZ (oV x t) 0 q fun v=>k v h:=by
 simp only[Ci,AN]
 have hb:∀ (o:O) (d:Nat) (k:Nat->Bool),BV (some o) d t k=vI (oV o t) fun _ n=>A3 n k:=fun o d k=>by show oE o t _=_;rw[AN]
 have h0:∀ (d:Nat) (k:Nat->Bool),BV none d t k=k d:=fun _ _=>rfl
 simp only[hb,h0,A2]
 generalize oV x t=v
 have hn:∀ w:V,(∀ k,vS w k=false)->(vI (oV b t) fun _ q=>A3 q fun q=>PZ w 0 q fun v=>k v h)=false:=by
  intro w hw
  have e2:∀ p q,PZ w p q (fun v=>k v h)=false:=fun p q=>hw _
  simp only[e2,uQ]
 cases v with
 |s l n=>simp only[Hv];rfl
 |_=>rw[hn _ fun _=>rfl];rfl
theorem Wa (a:O):Ci x (some a) none cf t h k=vI (oV a t) fun _ p=>A3 p fun p=>M8 (oV x t) p fun v=>k v h:=by
 simp only[Ci,AN]
 have hb:∀ (o:O) (d:Nat) (k:Nat->Bool),BV (some o) d t k=vI (oV o t) fun _ n=>A3 n k:=fun o d k=>by show oE o t _=_;rw[AN]
 have h0:∀ (d:Nat) (k:Nat->Bool),BV none d t k=k d:=fun _ _=>rfl
 simp only[hb,h0,A2]
 generalize oV x t=v
 have hn:∀ w:V,(∀ k,vS w k=false)->(vI (oV a t) fun _ q=>A3 q fun q=>M8 w q fun v=>k v h)=false:=by
  intro w hw
  have e2:∀ q,M8 w q (fun v=>k v h)=false:=fun q=>hw _
  simp only[e2,uQ]
 cases v with
 |s l n=>
  simp only[Hv]
  have:∀ p,M8 (.s l n) p (fun v=>k v h)=Ap (Nat.ble p l) fun _=>k (.s (Nat.sub l p) (Nat.mod (Nat.div n (Nat.pow 256 (Nat.sub l l))) (Nat.pow 256 (Nat.sub l p)))) h:=fun _=>rfl
  simp only[this]
  have e:∀ p,(Ap (Nat.ble p l) fun _=>Ap (Nat.ble l l) fun _=>k (.s (Nat.sub l p) (Nat.mod (Nat.div n (Nat.pow 256 (Nat.sub l l))) (Nat.pow 256 (Nat.sub l p)))) h)=Ap (Nat.ble p l) fun _=>k (.s (Nat.sub l p) (Nat.mod (Nat.div n (Nat.pow 256 (Nat.sub l l))) (Nat.pow 256 (Nat.sub l p)))) h:=fun p=>by
   have:Nat.ble l l=true:=by rw[Nat.ble_eq];exact Nat.le_refl _
   rw[this];rfl
  simp only[e]
 |_=>rw[hn _ fun _=>rfl];rfl
theorem NZ {l:List UInt8} {a b:Nat} (h1:a<=b) (h2:b<=l.length) (k:V->Bool):PZ (sv l) a b k=k (sv ((l.take b).drop a)):=by
 have e1:Nat.ble a b=true:=by rw[Nat.ble_eq];exact h1
 have e2:Nat.ble b l.length=true:=by rw[Nat.ble_eq];exact h2
 unfold PZ
 rw[Cq,e1,AG,e2,AG]
 unfold sv
 rw[Lt l h1 h2,List.length_drop,List.length_take,Nat.min_eq_left h2];rfl
theorem VS {l:List UInt8} {a:Nat} (h1:a<=l.length) (k:V->Bool):M8 (sv l) a k=k (sv (l.drop a)):=by
 have:=NZ h1 (Nat.le_refl _) k
 rw[List.take_length]at this
 rw[<-this]
 have e1:Nat.ble a l.length=true:=by rw[Nat.ble_eq];exact h1
 have e2:Nat.ble l.length l.length=true:=by rw[Nat.ble_eq];exact Nat.le_refl _
 unfold PZ M8
 rw[Cq,Cq,e1,AG,AG,e2,AG]
def MO (f:Nat->Nat->Nat->Nat->Bool) (a b:V) (k:V->Bool):Bool:=vS a fun la na=>vS b fun lb nb=>k (.b (f la na lb nb))
theorem UA (f:Nat->Nat->Nat->Nat->Bool):CX f x y cf t h k=MO f (oV x t) (oV y t) fun v=>k v h:=by simp only[CX,AN,Cd];rfl
theorem HL (a b:List UInt8):F3 a.length (pk a) b.length (pk b)=decide (a=b):=by
 have e:∀ {x y:Bool},(x=true↔y=true)->x=y:=by intro x y h;cases x<;>cases y<;>simp_all
 apply e
 rw[decide_eq_true_iff]
 have:=SO a b
 unfold F3
 rw[<-this]
 exact beq_iff_eq
def pW (a b:V) (k:V->Bool):Bool:=vS a fun la na=>vS b fun lb nb=>k (.i .i64 (Io (F3 la na lb nb) (Fi la na lb nb)))
theorem Tq:GQ x y cf t h k=pW (oV x t) (oV y t) fun v=>k v h:=by simp only[GQ,AN,Vg];rfl
theorem cR (a b:List UInt8) (k:V->Bool):pW (sv a) (sv b) k=k (.i .i64 (Io (decide (a=b)) (Op.bytesLess a b))):=by
 unfold pW;rw[Cq,Cq,HL,Bs]
theorem Zc (a b:List UInt8) (k:V->Bool):MO F3 (sv a) (sv b) k=k (.b (decide (a=b))):=by
 unfold MO;rw[Cq,Cq,HL]
theorem Zq (a b:List UInt8) (k:V->Bool):MO (fun a b c d=>!F3 a b c d) (sv a) (sv b) k=k (.b (!decide (a=b))):=by
 unfold MO;rw[Cq,Cq];simp only[HL]
theorem dN (a b:List UInt8) (k:V->Bool):MO Fi (sv a) (sv b) k=k (.b (Op.bytesLess a b)):=by
 unfold MO;rw[Cq,Cq,Bs]
theorem Qn (f:IntKind->Int->Nat->(V->Bool)->Bool):Ce f x y cf t h k=vI (oV x t) fun kd a=>vI (oV y t) fun _ b=>A3 b fun n=>f kd a (min n kd.bits) fun v=>k v h:=by simp only[Ce,AN]
theorem fR (kd:IntKind) (a:Int) (n:Nat) (k:V->Bool):Lj kd a n k=k (.i kd (kd.wrap (a*((2 ^ n:Nat):Int)))):=CK _ _ _
theorem Pg (len size:Nat):CU len size o x cf t h k=vP (oV o t) fun id g off fin=>vI (oV x t) fun _ n=>A3 n fun n=>Ap (Nat.ble (Nat.succ n) len) fun _=>k (.p id g (off+n*size) fin) h:=by
 simp only[CU,AN,A2];rfl
theorem oh {i n:Nat} (h:i<n) (k:Unit->Bool):Ap (Nat.ble (Nat.succ i) n) k=k ():=by
 have:Nat.ble (Nat.succ i) n=true:=by rw[Nat.ble_eq];exact h
 rw[this];rfl
theorem ME (n size:Nat) (a:O):DJ n size x (some a) none cf t h k=vP (oV x t) fun id g off fin=>vI (oV a t) fun _ p=>A3 p fun p=>Ap (Nat.ble p n) fun _=>BU size id g off n fin n p n fun v=>k v h:=by
 simp only[DJ,AN]
 have hb:∀ (o:O) (d:Nat) (k:Nat->Bool),BV (some o) d t k=vI (oV o t) fun _ n=>A3 n k:=fun o d k=>by show oE o t _=_;rw[AN]
 have h0:∀ (d:Nat) (k:Nat->Bool),BV none d t k=k d:=fun _ _=>rfl
 simp only[hb,h0]
theorem D2 {size:Nat} {id:B} {g off len fin c a b:Nat} (hcM:c<18446744073709551616) (h1:b<=c) (h2:a<c) (k:V->Bool):BU size id g off len fin c a b k=k (.l id g (off+a*size) (b-a) fin (some (c-a))):=by
 have e1:Nat.ble b c=true:=by rw[Nat.ble_eq];exact h1
 have e2:Nat.beq a c=false:=by
  cases hx:Nat.beq a c with
  |false=>rfl
  |true=>have:=Nat.eq_of_beq_eq_true hx;omega
 have e0:Nat.ble (Nat.succ c) 18446744073709551616=true:=by rw[Nat.ble_eq];exact hcM
 unfold BU
 rw[e0,AG,e1,AG,e2]
 show fN (Nat.sub b a) _=_
 rw[A2,A2,A2];rfl
theorem sR {a b:Nat} (h:a<=b) (k:Unit->Bool):Ap (Nat.ble a b) k=k ():=by
 have:Nat.ble a b=true:=by rw[Nat.ble_eq];exact h
 rw[this];rfl
def RV (h:H) (v:V) (k:V->Bool):Bool:=vL v (fun _=>k (.s 0 0)) fun id g off len fin _=>JW len len h id g off fin fun vs=>G3 vs 0 fun n=>k (.s len n)
theorem ZG:E2 x cf t h k=RV h (oV x t) fun v=>k v h:=by simp only[E2,AN];rfl
theorem LR:∀ (l:List UInt8) (acc:Nat) (k:Nat->Bool),G3 (l.map bv) acc k=k (acc*256 ^ l.length+pk l)
 |[],acc,k=>by show fN acc k=_;rw[A2];simp[pk]
 |c::l,acc,k=>by
  show Ia (bv c) (fun c=>fN (Nat.add (Nat.mul acc 256) c) fun acc=>G3 (l.map bv) acc k)=_
  have hb:∀ k',Ia (bv c) k'=k' c.toNat:=fun k'=>by
   have h2:Nat.ble c.toNat 255=true:=by rw[Nat.ble_eq];have:=c.toNat_lt;omega
   unfold Ia bv
   rw[Cw,BT,AG]
   show A3 (Int.ofNat c.toNat) _=_
   rw[A6,h2,AG]
  rw[hb,A2,LR l]
  congr 1
  show(acc*256+c.toNat)*256 ^ l.length+pk l=acc*256 ^ (l.length+1)+(c.toNat*256 ^ l.length+pk l)
  rw[Nat.add_mul,Nat.pow_succ,Nat.mul_assoc,Nat.mul_comm 256,Nat.add_assoc]
theorem UG {h:H} {v:V} {l:List UInt8} (a:Gb h v (l.map bv)) (hne:l≠[]) (k:V->Bool):RV h v k=k (sv l):=by
 rcases a with⟨rfl,e⟩|⟨id,g,off,fin,cap,rfl,h2,h3,h4⟩
 ·simp at e;exact absurd e hne
 ·show JW (l.map bv).length (l.map bv).length h id g off fin (fun vs=>G3 vs 0 fun n=>k (.s (l.map bv).length n))=_
  rw[Kr (by rw[List.length_map];exact List.length_pos_iff.2 hne),C8 h4 rfl (by simpa using hne) h2,LR]
  unfold sv
  simp
end
section
variable {P:Program} {S:Spec} {l:List CO} {t:F} {h:H} {K:F->H->Prop}
end
end Go.Ev
namespace Go.Ev
open Go Go.RowKit Go.WideShapes Go.ChangeShapes Go.ChangeAt
section
variable {H:Type} {enc:TypeId×Value->H}
theorem Gv {P:Program} (hl:laidOutB P=true) {W W':World} (hb:Below W.heap.size W W') (sp:Nat->Bool):∀ (ts:List TypeId) (vs:List Value) (ds:List (DataW H)) (ps:List MemPlace),
 ts.all (fun t=>P.readableRec t&&decide (t<P.types.size))=true->DataW.TrodAll enc P W 0 (fun _=>true) true ts vs ds ps->(∀ x∈ps,x.block<W.heap.size)->(∀ x∈ps,sp x.block=true)->DataW.TrodAll enc P W' 0 sp true ts vs ds ps
 |[],[],[],ps,_,h,_,_=>h
 |t::ts,v::vs,d::ds,ps,ht,h,hlt,hsp=>by
  obtain⟨p,q,h1,h2,rfl⟩:=h
  simp only[List.all_cons,Bool.and_eq_true]at ht
  refine⟨p,q,?_,Gv hl hb sp ts vs ds q (by simpa using ht.2) h2 (fun x hx=>hlt x (by simp[hx])) (fun x hx=>hsp x (by simp[hx])),rfl⟩
  exact WideElems.Trod_stays hl ht.1.1 (of_decide_eq_true ht.1.2) h1 (fun x hx=>hb.same (hlt x (by simp[hx]))) (fun x hx=>hsp x (by simp[hx]))
 |[],[],_::_,_,_,h,_,_=>h.elim
 |[],_::_,_,_,_,h,_,_=>by cases h
 |_::_,[],_,_,_,h,_,_=>by cases h
 |_::_,_::_,[],_,_,h,_,_=>by cases h
theorem Nz {C:Checked} {os:Os} {f:FuncId} {fn:Func} {s:ChangeSpec} {conds:List PathCond} {tb:TypeId}
 (own:ownKnob C.prog.godebug=none) (started:os.Started) (noInit:C.prog.inits.idxOf? f=none) (hfn:C.prog.funcs[f]? =some fn)
 (witness:∃ (w:World) (tape:Tape) (i:Input),w.os=os/\(w.forCall tape i).Shaped C.prog/\i.vars=[]/\Input.okWide C.prog (w.forCall tape i) .any w.heap.size f i/\
   s.pre6 enc C.prog fn conds false (w.forCall tape i).memory i.args/\({}:Assume).holds C.prog (lone (Frame.enter C.prog f i.args .normal) [] (w.forCall tape i)))
 (hv:s.vars=[]) (hs:∀ ds:List (DataW H),ds.length=fn.params.toList.length->s.fn H ds={results:=[.lit (.bool true)],args:=ds})
 (hl:laidOutB C.prog=true) (hr:fn.params.toList.all (fun t=>C.prog.readableRec t&&decide (t<C.prog.types.size))=true)
 (hres:fn.resultTypes=#[tb]) (hb:C.prog.underlying tb=some .bool)
 (run:∀ (W:World) (base:Nat) (args:Array Value) (ds:List (DataW H)) (p:List MemPlace),(∀ (j:Nat) t v,fn.params[j]? =some t->args[j]? =some v->Value.okWide C.prog W .any base t v)->W.ShapedOpen C.prog->DataW.TrodAll enc C.prog W 0 (fun _=>true) true fn.params.toList args.toList ds p->
   Calls C.prog f args W fun e w'=>e=.returned (.bool true)/\Below W.heap.size W w'):
 ReturnsInHanded {} C os f .any (s.pre6 enc C.prog fn conds false) (s.post enc C.prog fn false true false false):=by
 refine returnsInHanded_of_change_shaped own started noInit hfn witness ?_
 intro W base args ds gs before hval0 hW hcnd _ hopen _
 have hval:∀ (j:Nat) t v,fn.params[j]? =some t->args[j]? =some v->Value.okWide C.prog W .any base t v:=hval0
 have hW':=hW
 obtain⟨p,q,hA,hV,rfl,hfz,hnd⟩:=hW
 rw[hv]at hV
 obtain⟨rfl,rfl⟩:=trodVars_none hV
 have hlen:∀ (ts:List TypeId) (vs:List Value) (ds:List (DataW H)) (ps:List MemPlace),DataW.TrodAll enc C.prog W 0 (fun _=>true) true ts vs ds ps->ds.length=ts.length:=by
  intro ts
  induction ts with
  |nil=>intro vs ds ps h;cases vs<;>cases ds<;>first|rfl|cases h
  |cons t ts ih=>
   intro vs ds ps h
   cases vs with
   |nil=>cases h
   |cons v vs=>
    cases ds with
    |nil=>cases h
    |cons d ds=>obtain⟨p,q,h1,h2,rfl⟩:=h;simp[ih vs ds q h2]
 have hd:=hlen _ _ _ _ hA
 have hspec:s.fn H (ds++[])={results:=[.lit (.bool true)],args:=ds}:=by rw[List.append_nil];exact hs ds hd
 refine(run W base args ds p hval hopen hA).mono fun e W' ⟨he,hg⟩=>?_
 subst he
 simp only[List.append_nil]at hW'
 have hlt:∀ x∈p,x.block<W.heap.size:=fun x hx=>by simpa using hW'.lt x (by simpa using hx)
 refine⟨_,rfl,Pn (pa:=p) (pv:=[]) hg (by simpa using hW') (fun b sp hd=>?_) (fun sp hsp=>?_) (fun sp hsp=>?_) rfl (ok_one hres rfl (okWide_bool_mk hb _))⟩
 ·rw[hspec,hres]
  exact trodAll_cons_mk (shut_bool hb _) trodAll_mk0
 ·rw[hspec]
  exact Gv hl hg sp _ _ _ _ hr hA hlt (fun x hx=>hsp x (by simpa using hx))
 ·rw[hspec,hv];rfl
end
/--what a call's contract at the state that it begins in says of the call -/
theorem Nh {P:Program} {f:FuncId} {W:World} {h:H} (s:Start W h) {vs:List V} {args:Array Value} (ha:BG (Lu W) vs args.toList) (k:BO P f vs h fun y _=>y=.b true):Calls P f args W fun e w'=>e=.returned (.bool true)/\Below W.heap.size W w':=by
 obtain⟨y,h',⟨_,_,r⟩,rfl⟩:=k
 have:=(r (Lu W) W W args.toList ha s.rel).2
 rw[show args.toList.toArray=args by simp]at this
 refine this.mono fun e w' he=>?_
 obtain⟨x,rfl,ρ',_,x2,x3⟩:=he
 have x2':x=.bool true:=x2
 rw[x2']
 exact⟨rfl,x3.same.below⟩
end Go.Ev
namespace Go.Ev
open Go Go.RowKit Go.WideShapes Go.ChangeShapes Go.ChangeAt Go.Deep
theorem Mg {W:World} {a:Addr} {i:Nat} {x:Value} (h:W.cell? (a.add i)=some x):W.cell? ⟨a.block,a.off+i,none⟩=some x:=by
 have hsp:=World.cell?_spot h
 have e:a.add i=⟨a.block,a.off+i,none⟩:=by
  unfold Addr.add at hsp⊢
  split
  ·rename_i hi
   rw[if_pos hi]at hsp
   subst hi
   obtain⟨b,o,sp⟩:=a
   have:sp=none:=hsp
   rw[this];rfl
  ·rfl
 rw[<-e];exact h
section
variable {H':Type} {enc:TypeId×Value->H'} {P:Program}
/--a slice of one-cell elements:its elements' values -/
theorem Kj:maxLen<18446744073709551616:=by decide
/--a slice whose elements are of one cell -/
theorem ZL {W:World} {h:H} (s:Start W h) (h0:0<W.heap.size) {t e:TypeId} {fuel:Nat} {cs:List Value} {x:DataW H'×List MemPlace} (ht:P.underlying t=some (.slice e)) (hc:P.cellsOf e=1)
 (hd:DataW.trod enc P W 0 (fun _=>true) true fuel t cs=some x):∃ (sv:Value) (xs:List Value),cs=[sv]/\Gb h (Cp W sv) (xs.map (Cp W))/\xs.length<=maxLen/\
   ∀ (i:Nat) (y:Value),xs[i]? =some y->∃ n d p,DataW.trod enc P W 0 (fun _=>true) true n e [y]=some (d,p):=by
 rcases open_slice1 ht hc hd with⟨rfl,_⟩|⟨a,len,cap,m,n,V,D,Pl,rfl,hb,hl,hm,hmm,_,hx⟩
 ·exact⟨_,[],rfl,.inl ⟨rfl,rfl⟩,Nat.zero_le _,fun i y hy=>by simp at hy⟩
 ·simp only[if_true]at hmm
  have hget:∀ i y,((List.range len).map V)[i]? =some y->i<len/\y=V i:=by
   intro i y hy
   have hi:i<len:=by have:=(List.getElem?_eq_some_iff.1 hy).1;simpa using this
   simp[hi]at hy
   exact⟨hi,hy.symm⟩
  refine⟨_,(List.range len).map V,rfl,?_,by simp;omega,fun i y hy=>?_⟩
  ·refine s.Da h0 (fun hne=>?_) hl (Nat.lt_of_le_of_lt hm Kj) _ (by simp) fun i y hy=>?_
   ·have:=World.cell?_spot (hx 0 (by omega)).1
    unfold Addr.add at this
    simpa using this
   ·obtain⟨hi,rfl⟩:=hget i y hy
    exact Mg (hx i (by omega)).1
  ·obtain⟨hi,rfl⟩:=hget i y hy
   exact⟨_,_,_,(hx i (by omega)).2⟩
end
end Go.Ev
namespace Go.Ev
open Go Go.RowKit Go.WideShapes Go.ChangeShapes Go.ChangeAt Go.Deep
theorem RS (W:World) (s:ByteArray):Cp W (.string s)=sv s.data.toList:=by
 unfold Cp sv
 simp
theorem Ko {n:Nat} (h:n<=maxLen):n<=9223372036854775807:=by unfold maxLen at h;omega
section
variable {H':Type} {enc:TypeId×Value->H'} {P:Program}
/--a slice of numbers of one kind -/
def Kl (h:H) (kd:IntKind) (v:V) (L:List Int):Prop:=Gb h v (L.map (V.i kd))
theorem qt {W:World} {h:H} {kd:IntKind} (s:Start W h) (h0:0<W.heap.size) {t e:TypeId} {fuel:Nat} {cs:List Value} {x:DataW H'×List MemPlace} (ht:P.underlying t=some (.slice e)) (hc:P.cellsOf e=1) (he:P.underlying e=some (.int kd))
 (hd:DataW.trod enc P W 0 (fun _=>true) true fuel t cs=some x):∃ sv L,cs=[sv]/\Kl h kd (Cp W sv) L/\L.length<=9223372036854775807/\∀ n∈L,(Lit.int kd n).wf=true:=by
 obtain⟨sv,xs,rfl,l1,l2,l3⟩:=ZL s h0 ht hc hd
 have hb:∀ y∈xs,∃ n:Int,y=.int kd n/\(Lit.int kd n).wf=true:=by
  intro y hy
  obtain⟨i,hi⟩:=List.mem_iff_getElem?.1 hy
  obtain⟨n,d,p,hdy⟩:=l3 i y hi
  obtain⟨b,hb,_,hs⟩:=DataW.trod_int he hdy
  exact⟨b,by simpa using hb,hs⟩
 have hR:∃ R:List Int,xs=R.map (Value.int kd)/\∀ n∈R,(Lit.int kd n).wf=true:=by
  clear l1 l2 l3 hd
  induction xs with
  |nil=>exact⟨[],rfl,fun b hb=>by cases hb⟩
  |cons y ys ih=>
   obtain⟨b,rfl,hs⟩:=hb y (by simp)
   obtain⟨R,rfl,hR⟩:=ih fun z hz=>hb z (by simp[hz])
   exact⟨b::R,rfl,fun c hc=>by
    rcases List.mem_cons.1 hc with rfl|hc
    ·exact hs
    ·exact hR c hc⟩
 obtain⟨R,rfl,hR⟩:=hR
 refine⟨sv,R,rfl,?_,Ko (by simpa using l2),hR⟩
 unfold Kl
 have:(R.map (Value.int kd)).map (Cp W)=R.map (V.i kd):=by simp[Cp]
 rwa [this]at l1
end
end Go.Ev
namespace Go.Ev
open Go
/--what one operation makes of a state -/
def G6 (P:Program) (r:CR) (t:F) (h:H) (v:V) (h':H):Prop:=∃ cf,FX P cf/\∀ k,runK r cf t h k=k v h'
def C2 (P:Program) (o:CO) (t:F) (h:H) (t1:F) (h1:H):Prop:=match o with
 |.mk g d _ r=>∃ b,(∀ k,CW g t k=k b)/\((b=true/\∃ v,G6 P r t h v h1/\∀ k,DV d v t k=k t1)\/(b=false/\h1=h/\∀ k,DV d (.tu []) t k=k t1))
def Ld (P:Program):List CO->F->H->F->H->Prop
 |[],t,h,t',h'=>t'=t/\h'=h
 |o::l,t,h,t',h'=>∃ t1 h1,C2 P o t h t1 h1/\Ld P l t1 h1 t' h'
def Qi (P:Program) (o:CO) (t:F) (h:H) (t1:F) (h1:H):Prop:=match o with
 |.mk g d true r=>C2 P (.mk g d true r) t h t1 h1
 |.mk g d false r=>∃ b,(∀ k,CW g t k=k b)/\((b=true/\∃ v h2,G6 P r t (A4 h) v h2/\h1=Bz h h2/\∀ k,DV d v t k=k t1)\/(b=false/\h1=h/\∀ k,DV d (.tu []) t k=k t1))
def Lw (P:Program):List CO->F->H->F->H->Prop
 |[],t,h,t',h'=>t'=t/\h'=h
 |o::l,t,h,t',h'=>∃ t1 h1,Qi P o t h t1 h1/\Lw P l t1 h1 t' h'
theorem J0 (P:Program):FX P (F5 P fun _ _ _ _ _=>True):=Jh P _
theorem QM {P:Program} {o:CO} {t:F} {h:H} {t1:F} {h1:H} (a:C2 P o t h t1 h1):∃ cf,FX P cf/\∀ (ih:F->H->(F->H->Bool)->Bool) k,K8 o cf ih t h k=ih t1 h1 k:=by
 obtain⟨g,d,G1,r⟩:=o
 obtain⟨b,g1,g2⟩:=a
 rcases g2 with⟨rfl,v,⟨cf,c1,c2⟩,p⟩|⟨rfl,rfl,p⟩
 ·refine⟨cf,c1,fun ih k=>?_⟩
  show CW g t (fun b=>JJ b r d cf ih t h k)=_
  rw[g1]
  show runK r cf t h (fun v h=>DV d v t fun t=>ih t h k)=_
  rw[c2,p]
 ·refine⟨_,J0 P,fun ih k=>?_⟩
  show CW g t (fun b=>JJ b r d _ ih t h1 k)=_
  rw[g1]
  show DV d (.tu []) t (fun t=>ih t h1 k)=_
  rw[p]
theorem Kb {P:Program} {o:CO} {t:F} {h:H} {t1:F} {h1:H} (a:Qi P o t h t1 h1):∃ cf,FX P cf/\∀ (ih:F->H->(F->H->Bool)->Bool) k,TL o cf ih t h k=ih t1 h1 k:=by
 obtain⟨g,d,G1,r⟩:=o
 cases G1 with
 |true=>
  obtain⟨b,g1,g2⟩:=a
  rcases g2 with⟨rfl,v,⟨cf,c1,c2⟩,p⟩|⟨rfl,rfl,p⟩
  ·refine⟨cf,c1,fun ih k=>?_⟩
   show CW g t (fun b=>IK b true r d cf ih t h k)=_
   rw[g1]
   show runK r cf t h (fun v h=>DV d v t fun t=>ih t h k)=_
   rw[c2,p]
  ·refine⟨_,J0 P,fun ih k=>?_⟩
   show CW g t (fun b=>IK b true r d _ ih t h1 k)=_
   rw[g1]
   show DV d (.tu []) t (fun t=>ih t h1 k)=_
   rw[p]
 |false=>
  obtain⟨b,g1,g2⟩:=a
  rcases g2 with⟨rfl,v,h2,⟨cf,c1,c2⟩,rfl,p⟩|⟨rfl,rfl,p⟩
  ·refine⟨cf,c1,fun ih k=>?_⟩
   show CW g t (fun b=>IK b false r d cf ih t h k)=_
   rw[g1]
   show runK r cf t (A4 h) (fun v h2=>DV d v t fun t=>ih t (Bz h h2) k)=_
   rw[c2,p]
  ·refine⟨_,J0 P,fun ih k=>?_⟩
   show CW g t (fun b=>IK b false r d _ ih t h1 k)=_
   rw[g1]
   show DV d (.tu []) t (fun t=>ih t h1 k)=_
   rw[p]
theorem La {t1 t2:F} {h1 h2:H} (e:∀ k:F->H->Bool,k t1 h1=k t2 h2):t2=t1/\h2=h1:=by
 have:=e fun t h=>@decide (t=t1/\h=h1) (Classical.propDecidable _)
 simp at this
 exact this
theorem Pj {P:Program} {nt:Nat} {ops:Array Oper} (bars:Nat->Bool):∀ (l:List Oper) (n:Nat),ops.toList.drop n=l->∀ (t:F) (h:H) (t':F) (h':H),
 Ld P (AX bars P nt ops.toList (AZ P) n l) t h t' h'->At h h'/\B.val h.next<=B.val h'.next/\
  ∀ ρ a w w0 (Q:Exit->Act->World->Prop),CN ρ nt t a->A5 ρ h w w0->(∀ ρ' a' w',Ext h.floor ρ ρ'->CN ρ' nt t' a'->A5 ρ' h' w' w0->Q .normal a' w')->
   wpOps P ops Q (List.range' n l.length) a w:=by
 intro l
 induction l with
 |nil=>
  intro n hl t h t' h' hk
  obtain⟨rfl,rfl⟩:=hk
  exact⟨At.refl _,Nat.le_refl _,fun ρ a w w0 Q A R hq=>hq ρ a w (Ext.refl _ ρ) A R⟩
 |cons o l ih=>
  intro n hl t h t' h' hk
  obtain⟨t1,h1,hk1,hk2⟩:=hk
  obtain⟨cf,hcf,e⟩:=QM hk1
  obtain⟨t1',h1',a1,a2,a3,a4⟩:=Vz hcf (ops:=ops) (ih:=fun t h k=>k t h) (k:=fun _ _=>true) (e _ _)
  obtain⟨rfl,rfl⟩:=La (fun k=>(e (fun t h k=>k t h) k).symm.trans (a1 k))
  have hl':ops.toList.drop (n+1)=l:=by rw[<-List.drop_drop,hl];rfl
  obtain⟨b2,b3,b4⟩:=ih (n+1) hl' _ _ _ _ hk2
  refine⟨At.trans a2 a3 b2,Nat.le_trans a3 b3,fun ρ a w w0 Q A R hq=>?_⟩
  have hn:ops[n]? =some o:=by
   have:ops.toList[n]? =some o:=by
    have:=congrArg (fun l=>l[0]?) hl
    simpa using this
   simpa using this
  rw[List.length_cons,List.range'_succ,wpOps_cons]
  unfold wpOp
  simp only[hn]
  have:=a4 ρ a w w0 (wpOps P ops Q (List.range' (n+1) l.length)) Q A R fun ρ' a' w' l1 A' R'=>b4 ρ' a' w' w0 Q A' R' fun ρ'' a'' w'' l2 A'' R''=>hq ρ'' a'' w'' (Ext.trans l1 (by rw[<-a2.1];exact l2)) A'' R''
  split
  ·rename_i hw;simp only[hw,if_true]at this;exact .inl this
  ·rename_i hw;simp only[hw]at this;exact this
theorem Pw {P:Program} {nt:Nat} {ops:Array Oper} (bars:Nat->Bool):∀ (l:List Oper) (n:Nat),ops.toList.drop n=l->∀ (t:F) (h:H) (t':F) (h':H),
 Lw P (AX bars P nt ops.toList (AZ P) n l) t h t' h'->
 ∃ (Ts:Nat->F) (Hs:Nat->H),Ts n=t/\Hs n=h/\(Ts (n+l.length)=t'/\Hs (n+l.length)=h')/\
  ∀ (i:Nat) o,n<=i->ops[i]? =some o->BF P nt ops i o (bars i) (Ts i) (Ts (i+1)) (Hs i) (Hs (i+1)):=by
 intro l
 induction l with
 |nil=>
  intro n hl t h t' h' hk
  obtain⟨rfl,rfl⟩:=hk
  refine⟨fun _=>t',fun _=>h',rfl,rfl,⟨rfl,rfl⟩,fun i o hni hi=>?_⟩
  have:ops.toList[i]? =none:=by
   rw[List.getElem?_eq_none]
   have:=congrArg List.length hl
   simp at this
   simp;omega
  rw[show ops[i]? =ops.toList[i]? by simp,this]at hi
  cases hi
 |cons o l ih=>
  intro n hl t h t' h' hk
  have hn:ops[n]? =some o:=by
   have:ops.toList[n]? =some o:=by
    have:=congrArg (fun l=>l[0]?) hl
    simpa using this
   simpa using this
  obtain⟨t1,h1,hk1,hk2⟩:=hk
  obtain⟨cf,hcf,e⟩:=Kb hk1
  obtain⟨t1',h1',a1,a2⟩:=JB hcf hn (ih:=fun t h k=>k t h) (k:=fun _ _=>true) (e _ _)
  obtain⟨rfl,rfl⟩:=La (fun k=>(e (fun t h k=>k t h) k).symm.trans (a1 k))
  have hl':ops.toList.drop (n+1)=l:=by rw[<-List.drop_drop,hl];rfl
  obtain⟨Ts,Hs,b1,b2,b3,b4⟩:=ih (n+1) hl' _ _ _ _ hk2
  refine⟨fun i=>if i=n then t else Ts i,fun i=>if i=n then h else Hs i,by simp,by simp,?_,fun i oi hni hi=>?_⟩
  ·have e1:n+(o::l).length=n+1+l.length:=by simp;omega
   rw[e1]
   simp only[show ¬n+1+l.length=n by omega,if_false]
   exact b3
  ·by_cases hin:i=n
   ·subst hin
    rw[hn]at hi
    cases hi
    simp only[if_true,show ¬i+1=i by omega,if_false,b1,b2]
    exact a2
   ·simp only[hin,if_false,show ¬i+1=n by omega]
    exact b4 i oi (by omega) hi
theorem Py {P:Program} (hm:P.follows .mixedOrders=true) {nt:Nat} {ops:Array Oper} (hd:Bg ops.toList=true) {t:F} {h:H} {t':F} {h':H}
 (hk:Lw P (AX (B2 P ops.toList (CH ops.toList [])) P nt ops.toList (AZ P) 0 ops.toList) t h t' h'):
 At h h'/\B.val h.next<=B.val h'.next/\
  ∀ ρ a w w0 (id:Nat) (Q:Exit->Act->World->Prop),CN ρ nt t a->A5 ρ h w w0->(∀ ρ' a' w',Ext h.floor ρ ρ'->CN ρ' nt t' a'->A5 ρ' h' w' w0->Q .normal a' w')->(Code.region id ops true).wp P Q a w:=by
 obtain⟨Ts,Hs,b1,b2,b3,b4⟩:=Pw _ ops.toList 0 (by simp) t h t' h' hk
 have hst:∀ (i:Nat) o,ops[i]? =some o->BF P nt ops i o (B2 P ops.toList (CH ops.toList []) i) (Ts i) (Ts (i+1)) (Hs i) (Hs (i+1)):=fun i o hi=>b4 i o (Nat.zero_le _) hi
 have hlen:0+ops.toList.length=ops.size:=by simp
 rw[hlen]at b3
 obtain⟨c1,c2⟩:=b3
 refine⟨by rw[<-b2,<-c2];exact MU hd hst (Nat.le_refl _),by rw[<-b2,<-c2];exact B1 hst (Nat.zero_le _) (Nat.le_refl _),fun ρ a w w0 id Q A R hQ=>?_⟩
 refine wp_region_any hm ?_
 have hR1:A5 ρ h {w with drawn:=w.drawn+1} w0:=R.dr _
 obtain⟨M,m1,m2,m3,m4⟩:=JS (P:=P) (nt:=nt) (Ts:=Ts) (Hs:=Hs) hd hst 0 ops.size (by omega)
 have hno:∀ j,¬Ca (Array.replicate ops.size false) j:=by
  intro j;unfold Ca
  by_cases hj:j<ops.size<;>simp[hj]
 refine Qh hd hst (ρ0:=ρ) (w0:=w0) (fun ρ' a' w' h1 h2 h3=>hQ ρ' a' w' (by rw[<-b2];exact h1) (by rw[<-c1];exact h2) (by rw[<-c2];exact h3)) ops.size _ a _ ρ 0 M (by simp) (by unfold left;exact Nat.le_trans (List.length_filter_le _ _) (by simp)) (fun j o hj hin=>absurd hin (hno j)) ?_
 refine⟨A.size,A.defers,Ext.refl _ _,fun q h5=>⟨0,Nat.zero_le _,.inl rfl,fun j o hj hdj=>⟨fun h=>by omega,fun h=>absurd h (hno j)⟩,?_⟩,Nat.zero_le _,m2,fun j o hj h1 h2=>by omega,fun j o hj h1 h2=>hno j,m3,m4,
  fun i g L hL=>?_,fun i g L hL j o hj hnj hbd=>?_,fun m h1 h2=>?_⟩
 ·rw[b1,b2]
  exact Au.up (fun i g L hL=>A9.Ch hL (R.ids _ _ _ hL)) _ _ (A.slot q h5)
 ·have:=R.ids _ _ _ hL
  rw[<-b2]at this
  exact Nat.lt_of_lt_of_le this (B1 hst (Nat.zero_le _) m2)
 ·have:=R.ids _ _ _ hL
  rw[<-b2]at this
  have hjN:j<ops.size:=(Array.getElem?_eq_some_iff.1 hj).1
  have:=B1 hst (m:=0) (n:=j) (Nat.zero_le _) (by omega)
  omega
 ·have hmN:m<=ops.size:=by omega
  rw[<-b2]at hR1
  have hR2:A5 ρ (Hs m) {w with drawn:=w.drawn+1} w0:=hR1.Rk (fun i g L hL=>Hl hst m2 m3 (Nat.le_refl _) h1 h2 (hR1.ids _ _ _ hL)) (B1 hst h1 hmN) (Gg hst hmN)
  exact hR2.congr fun i g=>by
   cases hL:ρ i g with
   |none=>unfold A9.below;rw[hL];split<;>rfl
   |some L=>exact A9.Ch hL (hR2.ids _ _ _ hL)
def WO (P:Program) (l:List CO) (t:F) (h:H) (K:F->H->Prop):Prop:=∃ t' h',Ld P l t h t' h'/\K t' h'
def DO (P:Program) (l:List CO) (t:F) (h:H) (K:F->H->Prop):Prop:=∃ t' h',Lw P l t h t' h'/\K t' h'
section
variable {P:Program} {nt:Nat} {t:F} {h:H} {K:X->F->H->Prop}
theorem Ok.rg {l:List CO} (a:WO P l t h (K .normal)):Ok P nt (.region l) t h K:=by
 obtain⟨t',h',e,k⟩:=a
 refine⟨.normal,t',h',BR _ fun c e' hs=>?_,k⟩
 cases c with
 |region id os draw=>
  have e1:An P nt os.toList draw=.region l:=e'
  unfold An at e1
  split at e1
  ·cases e1
   obtain⟨a2,a3,a4⟩:=Pj (fun _=>true) os.toList 0 (by simp) t h t' h' e
   refine⟨a2,a3,fun ρ a w w0 Q A R hQ=>wp_region ?_⟩
   have:=a4 ρ a w w0 Q A R hQ
   rwa [show List.range' 0 os.toList.length=List.range os.size by rw[List.range_eq_range'];simp]at this
  ·split at e1<;>cases e1
 |scope d=>exact absurd rfl (hs d)
 |_=>cases e'
theorem Ok.dw (hm:P.follows .mixedOrders=true) {l:List CO} {ch:Option (List Nat×List (Nat×List Nat))} (a:DO P l t h (K .normal)):Ok P nt (.A7 l ch) t h K:=by
 obtain⟨t',h',e,k⟩:=a
 refine⟨.normal,t',h',BR _ fun c e' hs=>?_,k⟩
 cases c with
 |region id os draw=>
  have e1:An P nt os.toList draw=.A7 l ch:=e'
  unfold An at e1
  split at e1
  ·cases e1
  ·split at e1
   ·rename_i hd
    cases e1
    obtain⟨a2,a3,a4⟩:=Py hm hd e
    exact⟨a2,a3,fun ρ a w w0 Q A R hQ=>a4 ρ a w w0 id Q A R hQ⟩
   ·cases e1
 |scope d=>exact absurd rfl (hs d)
 |_=>cases e'
end
end Go.Ev
namespace Go.Ev
open Go
/--operations,shortly -/
def wB (n:Nat) (r:CE):CO:=.mk .none (.some (AR n)) true (.mk r)
def uB (n:Nat) (r:CE):CO:=.mk .none (.some (AR n)) false (.mk r)
def wG (g:Nat) (w:Bool) (n:Nat) (r:CE):CO:=.mk (.some (AR g) w) (.some (AR n)) true (.mk r)
def uG (g:Nat) (w:Bool) (n:Nat) (r:CE):CO:=.mk (.some (AR g) w) (.some (AR n)) false (.mk r)
def oN (n:Nat):O:=.c (.i .i64 (.ofNat n))
theorem jN (n:Nat) (r:CE):wB n r=.mk .none (.some (AR n)) true (.mk r):=rfl
theorem ir (n:Nat) (r:CE):uB n r=.mk .none (.some (AR n)) false (.mk r):=rfl
theorem rZ (g:Nat) (w:Bool) (n:Nat) (r:CE):wG g w n r=.mk (.some (AR g) w) (.some (AR n)) true (.mk r):=rfl
theorem pR (g:Nat) (w:Bool) (n:Nat) (r:CE):uG g w n r=.mk (.some (AR g) w) (.some (AR n)) false (.mk r):=rfl
theorem ja (n:Nat):oN n=.c (.i .i64 (.ofNat n)):=rfl
/--what stands behind an operation -/
inductive Nx where
 |w (n:Nat) (l:List CO) (t:F) (K:F->H->Prop)
 |w0 (l:List CO) (t:F) (K:F->H->Prop)
 |d (n:Nat) (l:List CO) (t:F) (K:F->H->Prop)
 |d0 (l:List CO) (t:F) (K:F->H->Prop)
 |u (n:Nat) (l:List CO) (t:F) (h:H) (K:F->H->Prop)
 |u0 (l:List CO) (t:F) (h:H) (K:F->H->Prop)
def Nx.go (P:Program):Nx->V->H->Prop
 |.w n l t K,v,h=>WO P l (put n v t) h K
 |.w0 l t K,_,h=>WO P l t h K
 |.d n l t K,v,h=>DO P l (put n v t) h K
 |.d0 l t K,_,h=>DO P l t h K
 |.u n l t h0 K,v,h=>DO P l (put n v t) (Bz h0 h) K
 |.u0 l t h0 K,_,h=>DO P l t (Bz h0 h) K
/--the operation r,then N -/
def OR (P:Program) (r:CE) (t:F) (h:H) (N:Nx):Prop:=∃ v h',G6 P (.mk r) t h v h'/\N.go P v h'
/--a guard,then r and N,or N alone -/
def GD (P:Program) (q:V) (w:Bool) (r:CE) (t:F) (h:H) (N:Nx):Prop:=∃ b,(∀ k,vG q w k=k b)/\((b=true/\OR P r t h N)\/(b=false/\N.go P (.tu []) h))
theorem MZ {b c:Bool} (e:∀ k:Bool->Bool,k b=k c):c=b:=(e id).symm
theorem vz {v u:V} (e:∀ k:V->Bool,k v=k u):u=v:=by
 have:=e fun x=>@decide (x=v) (Classical.propDecidable _)
 simp at this
 exact this
theorem Hf {v u:F} (e:∀ k:F->Bool,k v=k u):u=v:=by
 have:=e fun x=>@decide (x=v) (Classical.propDecidable _)
 simp at this
 exact this
theorem bX {v u:List V} (e:∀ k:List V->Bool,k v=k u):u=v:=by
 have:=e fun x=>@decide (x=v) (Classical.propDecidable _)
 simp at this
 exact this
theorem S9 {v u:V} {h g:H} (e:∀ k:V->H->Bool,k v h=k u g):u=v/\g=h:=by
 have:=e fun x y=>@decide (x=v/\y=h) (Classical.propDecidable _)
 simp at this
 exact⟨this.1,this.2⟩
section
variable {P:Program} {l:List CO} {t:F} {h:H} {K:F->H->Prop} {r:CE} {n g:Nat} {w b:Bool}
theorem NQ:WO P [] t h K=K t h:=propext ⟨fun⟨_,_,⟨e1,e2⟩,k⟩=>by subst e1;subst e2;exact k,fun k=>⟨t,h,⟨rfl,rfl⟩,k⟩⟩
theorem dR:DO P [] t h K=K t h:=propext ⟨fun⟨_,_,⟨e1,e2⟩,k⟩=>by subst e1;subst e2;exact k,fun k=>⟨t,h,⟨rfl,rfl⟩,k⟩⟩
theorem Fl {v:V} (k:F->Bool):DV (.some (AR n)) v t k=k (put n v t):=EY n v t k
theorem iz:WO P (.mk .none (.some (AR n)) b (.mk r)::l) t h K=OR P r t h (.w n l t K):=by
 apply propext;constructor
 ·rintro⟨t',h',⟨t1,h1,⟨q,g1,g2⟩,e⟩,k⟩
  have hq:=MZ (b:=true) (c:=q) fun k=>g1 k
  subst hq
  rcases g2 with⟨_,v,rr,p⟩|⟨e',_⟩
  ·have:=Hf fun k=>(Fl k).symm.trans (p k)
   subst this
   exact⟨v,h1,rr,t',h',e,k⟩
  ·cases e'
 ·rintro⟨v,h1,rr,t',h',e,k⟩
  exact⟨t',h',⟨_,h1,⟨true,fun _=>rfl,.inl ⟨rfl,v,rr,fun k=>Fl k⟩⟩,e⟩,k⟩
theorem vH:WO P (.mk .none .none b (.mk r)::l) t h K=OR P r t h (.w0 l t K):=by
 apply propext;constructor
 ·rintro⟨t',h',⟨t1,h1,⟨q,g1,g2⟩,e⟩,k⟩
  have hq:=MZ (b:=true) (c:=q) fun k=>g1 k
  subst hq
  rcases g2 with⟨_,v,rr,p⟩|⟨e',_⟩
  ·have:=Hf fun k=>p k
   subst this
   exact⟨v,h1,rr,t',h',e,k⟩
  ·cases e'
 ·rintro⟨v,h1,rr,t',h',e,k⟩
  exact⟨t',h',⟨_,h1,⟨true,fun _=>rfl,.inl ⟨rfl,v,rr,fun k=>rfl⟩⟩,e⟩,k⟩
theorem vm:WO P (.mk (.some (AR g) w) (.some (AR n)) b (.mk r)::l) t h K=GD P (get g t) w r t h (.w n l t K):=by
 apply propext;constructor
 ·rintro⟨t',h',⟨t1,h1,⟨q,g1,g2⟩,e⟩,k⟩
  refine⟨q,g1,?_⟩
  rcases g2 with⟨rfl,v,rr,p⟩|⟨rfl,rfl,p⟩
  ·have:=Hf fun k=>(Fl k).symm.trans (p k)
   subst this
   exact .inl ⟨rfl,v,h1,rr,t',h',e,k⟩
  ·have:=Hf fun k=>(Fl k).symm.trans (p k)
   subst this
   exact .inr ⟨rfl,t',h',e,k⟩
 ·rintro⟨q,g1,⟨rfl,v,h1,rr,t',h',e,k⟩|⟨rfl,t',h',e,k⟩⟩
  ·exact⟨t',h',⟨_,h1,⟨true,g1,.inl ⟨rfl,v,rr,fun k=>Fl k⟩⟩,e⟩,k⟩
  ·exact⟨t',h',⟨_,h,⟨false,g1,.inr ⟨rfl,rfl,fun k=>Fl k⟩⟩,e⟩,k⟩
theorem jr:WO P (.mk (.some (AR g) w) .none b (.mk r)::l) t h K=GD P (get g t) w r t h (.w0 l t K):=by
 apply propext;constructor
 ·rintro⟨t',h',⟨t1,h1,⟨q,g1,g2⟩,e⟩,k⟩
  refine⟨q,g1,?_⟩
  rcases g2 with⟨rfl,v,rr,p⟩|⟨rfl,rfl,p⟩
  ·have:=Hf fun k=>p k
   subst this
   exact .inl ⟨rfl,v,h1,rr,t',h',e,k⟩
  ·have:=Hf fun k=>p k
   subst this
   exact .inr ⟨rfl,t',h',e,k⟩
 ·rintro⟨q,g1,⟨rfl,v,h1,rr,t',h',e,k⟩|⟨rfl,t',h',e,k⟩⟩
  ·exact⟨t',h',⟨_,h1,⟨true,g1,.inl ⟨rfl,v,rr,fun k=>rfl⟩⟩,e⟩,k⟩
  ·exact⟨t',h',⟨_,h,⟨false,g1,.inr ⟨rfl,rfl,fun k=>rfl⟩⟩,e⟩,k⟩
theorem ua:DO P (.mk .none (.some (AR n)) true (.mk r)::l) t h K=OR P r t h (.d n l t K):=by
 apply propext;constructor
 ·rintro⟨t',h',⟨t1,h1,⟨q,g1,g2⟩,e⟩,k⟩
  have hq:=MZ (b:=true) (c:=q) fun k=>g1 k
  subst hq
  rcases g2 with⟨_,v,rr,p⟩|⟨e',_⟩
  ·have:=Hf fun k=>(Fl k).symm.trans (p k)
   subst this
   exact⟨v,h1,rr,t',h',e,k⟩
  ·cases e'
 ·rintro⟨v,h1,rr,t',h',e,k⟩
  exact⟨t',h',⟨_,h1,⟨true,fun _=>rfl,.inl ⟨rfl,v,rr,fun k=>Fl k⟩⟩,e⟩,k⟩
theorem wE:DO P (.mk .none .none true (.mk r)::l) t h K=OR P r t h (.d0 l t K):=by
 apply propext;constructor
 ·rintro⟨t',h',⟨t1,h1,⟨q,g1,g2⟩,e⟩,k⟩
  have hq:=MZ (b:=true) (c:=q) fun k=>g1 k
  subst hq
  rcases g2 with⟨_,v,rr,p⟩|⟨e',_⟩
  ·have:=Hf fun k=>p k
   subst this
   exact⟨v,h1,rr,t',h',e,k⟩
  ·cases e'
 ·rintro⟨v,h1,rr,t',h',e,k⟩
  exact⟨t',h',⟨_,h1,⟨true,fun _=>rfl,.inl ⟨rfl,v,rr,fun k=>rfl⟩⟩,e⟩,k⟩
theorem vf:DO P (.mk (.some (AR g) w) (.some (AR n)) true (.mk r)::l) t h K=GD P (get g t) w r t h (.d n l t K):=by
 apply propext;constructor
 ·rintro⟨t',h',⟨t1,h1,⟨q,g1,g2⟩,e⟩,k⟩
  refine⟨q,g1,?_⟩
  rcases g2 with⟨rfl,v,rr,p⟩|⟨rfl,rfl,p⟩
  ·have:=Hf fun k=>(Fl k).symm.trans (p k)
   subst this
   exact .inl ⟨rfl,v,h1,rr,t',h',e,k⟩
  ·have:=Hf fun k=>(Fl k).symm.trans (p k)
   subst this
   exact .inr ⟨rfl,t',h',e,k⟩
 ·rintro⟨q,g1,⟨rfl,v,h1,rr,t',h',e,k⟩|⟨rfl,t',h',e,k⟩⟩
  ·exact⟨t',h',⟨_,h1,⟨true,g1,.inl ⟨rfl,v,rr,fun k=>Fl k⟩⟩,e⟩,k⟩
  ·exact⟨t',h',⟨_,h,⟨false,g1,.inr ⟨rfl,rfl,fun k=>Fl k⟩⟩,e⟩,k⟩
theorem wN:DO P (.mk .none (.some (AR n)) false (.mk r)::l) t h K=OR P r t (A4 h) (.u n l t h K):=by
 apply propext;constructor
 ·rintro⟨t',h',⟨t1,h1,⟨q,g1,g2⟩,e⟩,k⟩
  have hq:=MZ (b:=true) (c:=q) fun k=>g1 k
  subst hq
  rcases g2 with⟨_,v,h2,rr,rfl,p⟩|⟨e',_⟩
  ·have:=Hf fun k=>(Fl k).symm.trans (p k)
   subst this
   exact⟨v,h2,rr,t',h',e,k⟩
  ·cases e'
 ·rintro⟨v,h2,rr,t',h',e,k⟩
  exact⟨t',h',⟨_,_,⟨true,fun _=>rfl,.inl ⟨rfl,v,h2,rr,rfl,fun k=>Fl k⟩⟩,e⟩,k⟩
theorem iY:DO P (.mk .none .none false (.mk r)::l) t h K=OR P r t (A4 h) (.u0 l t h K):=by
 apply propext;constructor
 ·rintro⟨t',h',⟨t1,h1,⟨q,g1,g2⟩,e⟩,k⟩
  have hq:=MZ (b:=true) (c:=q) fun k=>g1 k
  subst hq
  rcases g2 with⟨_,v,h2,rr,rfl,p⟩|⟨e',_⟩
  ·have:=Hf fun k=>p k
   subst this
   exact⟨v,h2,rr,t',h',e,k⟩
  ·cases e'
 ·rintro⟨v,h2,rr,t',h',e,k⟩
  exact⟨t',h',⟨_,_,⟨true,fun _=>rfl,.inl ⟨rfl,v,h2,rr,rfl,fun k=>rfl⟩⟩,e⟩,k⟩
theorem Dr (h:H):Bz h (A4 h)=h:=by cases h;rfl
theorem pC:DO P (.mk (.some (AR g) w) (.some (AR n)) false (.mk r)::l) t h K=GD P (get g t) w r t (A4 h) (.u n l t h K):=by
 apply propext;constructor
 ·rintro⟨t',h',⟨t1,h1,⟨q,g1,g2⟩,e⟩,k⟩
  refine⟨q,g1,?_⟩
  rcases g2 with⟨rfl,v,h2,rr,rfl,p⟩|⟨rfl,rfl,p⟩
  ·have:=Hf fun k=>(Fl k).symm.trans (p k)
   subst this
   exact .inl ⟨rfl,v,h2,rr,t',h',e,k⟩
  ·have:=Hf fun k=>(Fl k).symm.trans (p k)
   subst this
   exact .inr ⟨rfl,t',h',by rw[Dr];exact e,k⟩
 ·rintro⟨q,g1,⟨rfl,v,h2,rr,t',h',e,k⟩|⟨rfl,t',h',e,k⟩⟩
  ·exact⟨t',h',⟨_,_,⟨true,g1,.inl ⟨rfl,v,h2,rr,rfl,fun k=>Fl k⟩⟩,e⟩,k⟩
  ·rw[Dr]at e
   exact⟨t',h',⟨_,h,⟨false,g1,.inr ⟨rfl,rfl,fun k=>Fl k⟩⟩,e⟩,k⟩
end
section
variable {P:Program} {l:List CO} {t:F} {h h0:H} {K:F->H->Prop} {n:Nat} {v:V}
theorem eQ:(Nx.w n l t K).go P v h=WO P l (put n v t) h K:=rfl
theorem Vh:(Nx.w0 l t K).go P v h=WO P l t h K:=rfl
theorem Vd:(Nx.d n l t K).go P v h=DO P l (put n v t) h K:=rfl
theorem nF:(Nx.d0 l t K).go P v h=DO P l t h K:=rfl
theorem Ry:(Nx.u n l t h0 K).go P v h=DO P l (put n v t) (Bz h0 h) K:=rfl
theorem qv:(Nx.u0 l t h0 K).go P v h=DO P l t (Bz h0 h) K:=rfl
end
section
variable {P:Program} {r:CE} {t:F} {h:H} {N:Nx} {w q:Bool}
theorem OP:GD P (.b q) w r t h N=if q=w then OR P r t h N else N.go P (.tu []) h:=by
 have e1:∀ f,vG (.b q) w f=f (xor (xor q w) true):=fun _=>rfl
 apply propext;constructor
 ·rintro⟨b,g1,g2⟩
  have:=MZ fun k=>(e1 k).symm.trans (g1 k)
  subst this
  rcases g2 with⟨e,k⟩|⟨e,k⟩
  ·rw[if_pos (by cases q<;>cases w<;>simp_all)];exact k
  ·rw[if_neg (by cases q<;>cases w<;>simp_all)];exact k
 ·intro k
  refine⟨_,e1,?_⟩
  split at k
  ·rename_i e;exact .inl ⟨by cases q<;>cases w<;>simp_all,k⟩
  ·rename_i e;exact .inr ⟨by cases q<;>cases w<;>simp_all,k⟩
theorem ff:GD P (.b true) true r t h N=OR P r t h N:=by rw[OP];rfl
theorem jQ:GD P (.b false) false r t h N=OR P r t h N:=by rw[OP];rfl
theorem nE:GD P (.b true) false r t h N=N.go P (.tu []) h:=by rw[OP];rfl
theorem mI:GD P (.b false) true r t h N=N.go P (.tu []) h:=by rw[OP];rfl
theorem lS:GD P (.tu []) w r t h N=N.go P (.tu []) h:=by
 have e1:∀ f,vG (.tu []) w f=f false:=fun _=>rfl
 apply propext;constructor
 ·rintro⟨b,g1,g2⟩
  have:=MZ fun k=>(e1 k).symm.trans (g1 k)
  subst this
  rcases g2 with⟨e,k⟩|⟨e,k⟩
  ·cases e
  ·exact k
 ·intro k;exact⟨_,e1,.inr ⟨rfl,k⟩⟩
/--a guard that isn't decided -/
theorem AE (a:q=true->GD P (.b true) w r t h N) (b:q=false->GD P (.b false) w r t h N):GD P (.b q) w r t h N:=by
 cases q with
 |true=>exact a rfl
 |false=>exact b rfl
end
def HV (P:Program) (g:(V->Bool)->Bool) (h:H) (N:Nx):Prop:=∃ v,(∀ k,g k=k v)/\N.go P v h
def H1 (P:Program) (g:V->(V->Bool)->Bool) (x:V) (h:H) (N:Nx):Prop:=HV P (g x) h N
def H2 (P:Program) (g:V->V->(V->Bool)->Bool) (x y:V) (h:H) (N:Nx):Prop:=HV P (g x y) h N
def H3 (P:Program) (g:V->V->V->(V->Bool)->Bool) (x y z:V) (h:H) (N:Nx):Prop:=HV P (g x y z) h N
theorem BZ {P:Program} {r:CE} {t:F} {h:H} {N:Nx} {g:(V->Bool)->Bool} (e:∀ cf k,r cf t h k=g fun v=>k v h):OR P r t h N=HV P g h N:=by
 apply propext;constructor
 ·rintro⟨v,h',⟨cf,c1,c2⟩,k⟩
  have hh:h'=h:=by
   have h1:=c2 fun _ x=>@decide (x=h) (Classical.propDecidable _)
   have h2:=c2 fun _ _=>true
   have e1:=e cf fun _ x=>@decide (x=h) (Classical.propDecidable _)
   have e2:=e cf fun _ _=>true
   have:(fun(v:V)=>(fun _ x=>@decide (x=h) (Classical.propDecidable _)) v h)=fun(v:V)=>(fun _ _=>true) v h:=by funext v;simp
   rw[this,<-e2]at e1
   have h1':r cf t h (fun _ x=>@decide (x=h) (Classical.propDecidable _))=@decide (h'=h) (Classical.propDecidable _):=h1
   have h2':r cf t h (fun _ _=>true)=true:=h2
   rw[e1,h2']at h1'
   simpa using h1'.symm
  subst hh
  exact⟨v,fun k0=>by rw[<-e cf fun v _=>k0 v];exact c2 _,k⟩
 ·rintro⟨v,g1,k⟩
  exact⟨v,h,⟨_,J0 P,fun k=>by show r _ t h k=_;rw[e,g1]⟩,k⟩
theorem Ai {P:Program} {h:H} {N:Nx} {g:(V->Bool)->Bool} {v:V} (e:∀ k,g k=k v):HV P g h N=N.go P v h:=
 propext ⟨fun⟨u,g1,k⟩=>by have:=vz fun k=>(e k).symm.trans (g1 k);subst this;exact k,fun k=>⟨v,e,k⟩⟩
def C1 (f:Ey) (x y:V) (k:V->Bool):Bool:=vI x fun kd a=>vI y fun kd' b=>Ap (CA kd kd') fun _=>f kd a b k
def Nc (f:IntKind->Int->Nat->(V->Bool)->Bool) (x y:V) (k:V->Bool):Bool:=vI x fun kd a=>vI y fun _ b=>A3 b fun n=>f kd a (min n kd.bits) k
def lu (x y:V) (k:V->Bool):Bool:=vI y fun kd' b=>UZ x (fun kd a=>Ap (CA kd kd') fun _=>Pc kd a b k) fun kd m r _=>T7 kd' b k kd m r
def TC (ne:Bool) (x y:V) (k:V->Bool):Bool:=vB x fun a=>vB y fun b=>k (.b (xor ne (xor (xor a b) true)))
def kS (x:V) (k:V->Bool):Bool:=vB x fun a=>k (.b (!a))
def gm (x:V) (k:V->Bool):Bool:=vI x fun kd n=>Ez (Int.neg n) kd (BQ kd) k
def WA (kd:IntKind) (x:V) (k:V->Bool):Bool:=UZ x (fun _ n=>k (.i kd (kd.wrap n))) fun _ m r hi=>Ap (Nat.ble hi (BQ kd)) fun _=>k (.r kd m r hi)
def Rl (j:Nat) (x:V) (k:V->Bool):Bool:=vT x fun vs=>CM (vs[j]?) k
def V7 (x:V) (k:V->Bool):Bool:=vS x fun n _=>k (.i .i64 (.ofNat n))
def Lv (x:V) (k:V->Bool):Bool:=Pq x fun n=>k (.i .i64 (n:Int))
def ib (x y:V) (k:V->Bool):Bool:=vI x fun kd a=>vI y fun kd' b=>Ap (CA kd kd') fun _=>k (.i kd (min a b))
def Sc (f:Nat->Nat->Nat->Nat->Bool) (x y:V) (k:V->Bool):Bool:=vS x fun la na=>vS y fun lb nb=>A1 (f la na lb nb) (fun _=>k (.s la na)) (fun _=>k (.s lb nb))
def oQ (x y:V) (k:V->Bool):Bool:=vI x fun kd a=>vI y fun kd' b=>Ap (CA kd kd') fun _=>k (.i kd (max a b))
def V4 (c x y:V) (k:V->Bool):Bool:=vB c fun q=>k (cond q x y)
def N5 (d:Nat) (x:V) (k:V->Bool):Bool:=vA x fun cs=>CM (cs[d]?) k
def O0 (d size:Nat) (x:V) (k:V->Bool):Bool:=vA x fun cs=>k (.a ((cs.drop d).take size))
def JV (d:Nat) (x:V) (k:V->Bool):Bool:=vP x fun id g off fin=>k (.p id g (off+d) fin)
def Kf (x:V) (k:V->Bool):Bool:=vP x fun id g off fin=>k (.p id g off fin)
def Qb (size:Nat) (x y:V) (k:V->Bool):Bool:=vI y fun _ n=>A3 n fun n=>Mf size x n k
def Ku (len size:Nat) (x y:V) (k:V->Bool):Bool:=vP x fun id g off fin=>vI y fun _ n=>A3 n fun n=>Ap (Nat.ble (Nat.succ n) len) fun _=>k (.p id g (off+n*size) fin)
def LZ (x y:V) (k:V->Bool):Bool:=vI y fun _ n=>A3 n fun n=>PX x n k
def OW (len size:Nat) (x y:V) (k:V->Bool):Bool:=vA x fun cs=>vI y fun _ n=>A3 n fun n=>Ap (Nat.ble (Nat.succ n) len) fun _=>CM (cs[Nat.mul n size]?) k
def lX (x a b:V) (k:V->Bool):Bool:=vI a fun _ p=>A3 p fun p=>vI b fun _ q=>A3 q fun q=>PZ x p q k
def mU (x b:V) (k:V->Bool):Bool:=vI b fun _ q=>A3 q fun q=>PZ x 0 q k
def sX (x a:V) (k:V->Bool):Bool:=vI a fun _ p=>A3 p fun p=>M8 x p k
def Rx (x:V) (k:V->Bool):Bool:=vS x fun l n=>k (.s l n)
def Rv (f:V->(Bool->Bool)->Bool) (ne:Bool) (x y:V) (k:V->Bool):Bool:=f x fun a=>f y fun b=>Ap (a||b) fun _=>k (.b (xor ne (a&&b)))
def Kn (n size:Nat) (x a:V) (k:V->Bool):Bool:=vP x fun id g off fin=>vI a fun _ p=>A3 p fun p=>Ap (Nat.ble p n) fun _=>BU size id g off n fin n p n k
section
variable {P:Program} {t:F} {h:H} {N:Nx} (o x y c:O)
theorem Ti:OR P (AA o) t h N=N.go P (oV o t) h:=(BZ (g:=fun k=>k (oV o t)) fun cf k=>TT ..).trans (Ai fun _=>rfl)
theorem Tx:OR P (Ay c x y) t h N=H3 P V4 (oV c t) (oV x t) (oV y t) h N:=BZ fun cf k=>UX ..
theorem Ww (f:Ey):OR P (AM f x y) t h N=H2 P (C1 f) (oV x t) (oV y t) h N:=BZ fun cf k=>Yc ..
theorem SN (f:IntKind->Int->Nat->(V->Bool)->Bool):OR P (Ce f x y) t h N=H2 P (Nc f) (oV x t) (oV y t) h N:=BZ fun cf k=>Qn ..
theorem bL:OR P (Eu x y) t h N=H2 P lu (oV x t) (oV y t) h N:=BZ fun cf k=>Yr ..
theorem TY (ne:Bool):OR P (Fm ne x y) t h N=H2 P (TC ne) (oV x t) (oV y t) h N:=BZ fun cf k=>VG ..
theorem Xu:OR P (Cc x) t h N=H1 P kS (oV x t) h N:=BZ fun cf k=>ba ..
theorem fF:OR P (MI x) t h N=H1 P gm (oV x t) h N:=BZ fun cf k=>by simp only[MI,AN];rfl
theorem Tv (kd:IntKind):OR P (Bd kd x) t h N=H1 P (WA kd) (oV x t) h N:=BZ fun cf k=>QW ..
theorem aX (j:Nat):OR P (Az j x) t h N=H1 P (Rl j) (oV x t) h N:=BZ fun cf k=>N8 ..
theorem T4:OR P (DA x) t h N=H1 P V7 (oV x t) h N:=BZ fun cf k=>Ta ..
theorem bF:OR P (BW x) t h N=H1 P Lv (oV x t) h N:=BZ fun cf k=>WY ..
theorem eZ:OR P (Ii x y) t h N=H2 P ib (oV x t) (oV y t) h N:=BZ fun cf k=>fE ..
theorem WH (f:Nat->Nat->Nat->Nat->Bool):OR P (G0 f x y) t h N=H2 P (Sc f) (oV x t) (oV y t) h N:=BZ fun cf k=>by simp only[G0,AN];rfl
theorem dA:OR P (Fx x y) t h N=H2 P oQ (oV x t) (oV y t) h N:=BZ fun cf k=>cg ..
theorem Rb (d:Nat):OR P (Gh d o) t h N=H1 P (N5 d) (oV o t) h N:=BZ fun cf k=>Ra ..
theorem QI (d size:Nat):OR P (FD d size o) t h N=H1 P (O0 d size) (oV o t) h N:=BZ fun cf k=>QA ..
theorem LJ (d:Nat):OR P (AH d o) t h N=H1 P (JV d) (oV o t) h N:=BZ fun cf k=>LL ..
theorem Mv:OR P (Ag o) t h N=H1 P Kf (oV o t) h N:=BZ fun cf k=>Mp ..
theorem Yp (size:Nat):OR P (AF size o x) t h N=H2 P (Qb size) (oV o t) (oV x t) h N:=BZ fun cf k=>bC ..
theorem PN (len size:Nat):OR P (CU len size o x) t h N=H2 P (Ku len size) (oV o t) (oV x t) h N:=BZ fun cf k=>Pg ..
theorem PK:OR P (Et x y) t h N=H2 P LZ (oV x t) (oV y t) h N:=BZ fun cf k=>PV ..
theorem P2 (len size:Nat):OR P (GH len size x y) t h N=H2 P (OW len size) (oV x t) (oV y t) h N:=BZ fun cf k=>by simp only[GH,AN,BE];rfl
theorem Pu:OR P (Em x y) t h N=H2 P Sp (oV x t) (oV y t) h N:=BZ fun cf k=>QR ..
theorem UB (f:Nat->Nat->Nat->Nat->Bool):OR P (CX f x y) t h N=H2 P (MO f) (oV x t) (oV y t) h N:=BZ fun cf k=>UA ..
theorem UN:OR P (GQ x y) t h N=H2 P pW (oV x t) (oV y t) h N:=BZ fun cf k=>Tq ..
theorem fG (a b:O):OR P (Ci x (some a) (some b)) t h N=H3 P lX (oV x t) (oV a t) (oV b t) h N:=BZ fun cf k=>cJ ..
theorem Yv (b:O):OR P (Ci x none (some b)) t h N=H2 P mU (oV x t) (oV b t) h N:=BZ fun cf k=>Zo ..
theorem ZC (a:O):OR P (Ci x (some a) none) t h N=H2 P sX (oV x t) (oV a t) h N:=BZ fun cf k=>Wa ..
theorem Sw:OR P (GW x) t h N=H1 P Rx (oV x t) h N:=BZ fun cf k=>by simp only[GW,AN];rfl
theorem or_nil (f:V->(Bool->Bool)->Bool) (ne:Bool):OR P (Ic f ne x y) t h N=H2 P (Rv f ne) (oV x t) (oV y t) h N:=BZ fun cf k=>by simp only[Ic,AN,Cd];rfl
theorem Mc (n size:Nat) (a:O):OR P (DJ n size x (some a) none) t h N=H2 P (Kn n size) (oV x t) (oV a t) h N:=BZ fun cf k=>ME ..
end
end Go.Ev
namespace Go.Ev
open Go
/--a block of the call's own,with its elements' type -/
def Is (h:H) (id:B) (el:Nat) (xs:List V):Prop:=∃ Ak,h.heap.get id=some Ak/\Ak.cur=0/\Ak.min=0/\Ak.fr=0/\Ak.el=el/\B.val h.floor<=B.val id/\B.val id<B.val h.next/\∀ i y,xs[i]? =some y->Ak.cells.BL i=some y
theorem Is.own {h:H} {id:B} {el:Nat} {xs:List V} (o:Is h id el xs):DM h id xs:=by
 obtain⟨Ak,h1,h2,h3,h4,h5,h6,h7,h8⟩:=o
 exact⟨Ak,h1,h2,h3,h4,h6,h7,h8⟩
theorem Is.stay {p:B->Prop} {h h':H} {id:B} {el:Nat} {xs:List V} (o:Is h id el xs) (s:AU p h h') (hp:¬p id):Is h' id el xs:=by
 obtain⟨Ak,h1,h2,h3,h4,h5,h6,h7,h8⟩:=o
 exact⟨Ak,(s.get id h7 hp).trans h1,h2,h3,h4,h5,by rw[s.floor];exact h6,Nat.lt_of_lt_of_le h7 s.next,h8⟩
theorem Is.lt {h:H} {id:B} {el:Nat} {xs:List V} (o:Is h id el xs):B.val id<B.val h.next:=by obtain⟨_,_,_,_,_,_,_,h7,_⟩:=o;exact h7
section
variable {P:Program} {S:Spec} {l:List CO} {t:F} {h:H} {K:F->H->Prop}
end
section
variable (cf:Bk) (t:F) (h:H) (k:V->H->Bool) (x y:O)
end
theorem Ju:∀ (m:Nat) (l:List UInt8) (acc:List V) (k:List V->Bool),l.length=m->J9 m (pk l) acc k=k (l.map bv++acc):=by
 intro m
 induction m with
 |zero=>
  intro l acc k h
  have:l=[]:=List.eq_nil_of_length_eq_zero h
  subst this;rfl
 |succ m ih=>
  intro l acc k h
  have hne:l≠[]:=by intro h0;subst h0;simp at h
  obtain⟨l',b,rfl⟩:∃ l' b,l=l'++[b]:=⟨l.dropLast,l.getLast hne,(List.dropLast_concat_getLast hne).symm⟩
  have hs:=HU l' [b]
  have hb:pk [b]=b.toNat:=by simp[pk]
  simp only[List.length_cons,List.length_nil,Nat.zero_add,Nat.pow_one,hb]at hs
  show fN (Nat.mod (pk (l'++[b])) 256) (fun c=>fN (Nat.div (pk (l'++[b])) 256) fun n=>J9 m n (.i .u8 (.ofNat c)::acc) k)=_
  rw[A2,A2]
  have e1:Nat.mod (pk (l'++[b])) 256=b.toNat:=hs.2
  have e2:Nat.div (pk (l'++[b])) 256=pk l':=hs.1
  rw[e1,e2,ih l' _ k (by simpa using h)]
  simp[bv]
theorem IJ:∀ l:List UInt8,Bx (l.map bv)=true
 |[]=>rfl
 |_::l=>IJ l
section
variable {P:Program} {S:Spec} {l:List CO} {t:F} {h:H} {K:F->H->Prop}
end
/--a Builder of the call's own,behind 'lo',in the blocks U,with the bytes a -/
structure Sb (h:H) (lo elB el8:Nat) (id:B) (U:B->Prop) (a:List UInt8):Prop where
 made:∃ adr w,Is h id elB [adr,w]/\(adr=.p0\/adr=.p id 0 0 2)/\Ff h el8 1 w (a.map bv)/\(∀ i,Am w i->U i)/\¬Am w id
 self:U id
 lo:∀ i,U i->lo<=B.val i/\B.val i<B.val h.next
theorem Sb.stay {h h':H} {lo elB el8:Nat} {id:B} {U p:B->Prop} {a:List UInt8} (s:Sb h lo elB el8 id U a) (st:AU p h h') (hp:∀ i,U i->¬p i):Sb h' lo elB el8 id U a:=by
 obtain⟨⟨adr,w,o,ha,b,hw,hn⟩,hs,hlo⟩:=s
 exact⟨⟨adr,w,o.stay st (hp _ hs),ha,b.stay st fun i hi=>hp i (hw i hi),hw,hn⟩,hs,fun i hi=>⟨(hlo i hi).1,Nat.lt_of_lt_of_le (hlo i hi).2 st.next⟩⟩
/--a slice of one-cell elements of the call's own,behind 'lo' -/
structure Vb (h:H) (lo el:Nat) (v:V) (xs:List V):Prop where
 buf:Ff h el 1 v xs
 own:∀ i,Am v i->lo<=B.val i
theorem Vb.nil (h:H) (lo el:Nat):Vb h lo el .l0 []:=⟨Ff.nil h el 1,fun i hi=>by obtain⟨_,_,_,_,_,e⟩:=hi;cases e⟩
theorem Vb.stay {p:B->Prop} {h h':H} {lo el:Nat} {v:V} {xs:List V} (a:Vb h lo el v xs) (s:AU p h h') (hp:∀ i,Am v i->¬p i):Vb h' lo el v xs:=⟨a.buf.stay s hp,a.own⟩
theorem Vb.grow {h h':H} {lo el:Nat} {v:V} {xs:List V} (a:Vb h lo el v xs) (s:AU AQ h h'):Vb h' lo el v xs:=⟨a.buf.grow s,a.own⟩
/--a new slice of bytes,in a block of the call's own that begins at 0;its end is marked,so that it is no Ff -/
theorem OS (el:Nat) {l:List UInt8} {h:H} (hf:B.val h.floor<=B.val h.next) (hl:l.length<=1048576):
 ∃ h',(∀ (x:O) (t:F) (cf:Bk) (k:V->H->Bool),oV x t=sv l->HZ el x cf t h k=k (.l h.next 0 0 l.length l.length (G5 l.length)) h')/\AU AQ h h'/\B.val h'.next=B.val h.next+1/\
  Row h' h.next 0 0 (l.map bv)/\Gb h' (.l h.next 0 0 l.length l.length (G5 l.length)) (l.map bv)/\
  ∃ cells,h'.heap.get h.next=some ⟨0,0,l.length,cells,el,1⟩/\∀ i y,(l.map bv)[i]? =some y->cells.BL i=some y:=by
 obtain⟨⟨nx,fl,heap⟩,a1,a2,a3,⟨cur,min,sz,cells,bel,fr⟩,b1,b2,b3,b4,b5,b6,b7⟩:=DT el (l.map bv) h (by simp;omega)
 simp only at b2 b3 b4 b5 b6 b7
 subst b2;subst b3;subst b5;subst b6
 rw[List.length_map]at b4
 subst b4
 obtain⟨hp,s1,s2,s3⟩:=Bv h.next (⟨0,0,l.length,cells,bel,1⟩:Gn) heap
 have hfl:fl=h.floor:=a2.floor
 have g3:B.KF fl h.next=true:=by
  rw[hfl]
  cases hfx:h.floor<;>first|rfl|(rw[hfx]at hf;show Nat.ble _ _=true;rw[Nat.ble_eq];exact hf)
 have g5:Nat.ble l.length 1048576=true:=by rw[Nat.ble_eq];exact hl
 have b1':heap.get h.next=some ⟨0,0,l.length,cells,bel,0⟩:=b1
 have hrow:Row ⟨nx,fl,hp⟩ h.next 0 0 (l.map bv):=by
  refine⟨fun _=>⟨_,s2,Nat.le_refl _⟩,fun i y hy=>?_⟩
  unfold Ev.cell G4
  show(match hp.get h.next with|some b=>if b.min<=0 then b.cells.BL (0+i)else none|none=>none)=_
  rw[s2]
  simp only[Nat.le_refl,if_true,Nat.zero_add]
  exact b7 i y hy
 refine⟨⟨nx,fl,hp⟩,fun x t cf k e=>?_,⟨a2.floor,a2.next,fun id h1 h2=>(s3 id fun e=>by rw[e]at h1;exact absurd h1 (Nat.lt_irrefl _)).trans (a2.get id h1 h2)⟩,a3,hrow,
  .inr ⟨h.next,0,0,l.length,G5 l.length,by rw[List.length_map],by rw[List.length_map];omega,by show B.val h.next<B.val nx;have:B.val nx=B.val h.next+1:=a3;omega,hrow⟩,cells,s2,b7⟩
 simp only[HZ,AN,e]
 show Ap (Nat.ble l.length 1048576) (fun _=>J9 l.length (pk l) [] fun vs=>alloc bel vs h fun id h=>Js h id fun h=>k (.l id 0 0 l.length l.length (G5 l.length)) h)=_
 rw[g5,AG,Ju _ _ _ _ rfl,List.append_nil,a1]
 simp only[Js,CI,b1',Al,BD,g3,AG]
 have g0:Nat.beq 0 0=true:=rfl
 rw[g0,AG]
 exact s1 _
section
variable {P:Program} {S:Spec} {l:List CO} {t:F} {h:H} {K:F->H->Prop}
end
/--v is the newest slice of its block -/
def NN (h:H) (v:V):Prop:=∀ id g off n fin cap,v=.l id g off n fin cap->∃ Ak,h.heap.get id=some Ak/\Ak.cur=g
theorem NN.nil (h:H):NN h .l0:=fun _ _ _ _ _ _ e=>by cases e
theorem NN.stay {p:B->Prop} {h h':H} {v:V} (a:NN h v) (s:AU p h h') (hl:∀ id,Am v id->B.val id<B.val h.next) (hp:∀ id,Am v id->¬p id):NN h' v:=fun id g off n fin cap e=>by
 obtain⟨Ak,h1,h2⟩:=a id g off n fin cap e
 have i:Am v id:=⟨_,_,_,_,_,e⟩
 exact⟨Ak,(s.get id (hl id i) (hp id i)).trans h1,h2⟩
theorem Jp {h:H} {el size n:Nat} {v:V} {xs vs:List V} (b:Ff h el size v xs) (hf:B.val h.floor<=B.val h.next) (hsz:1<=size) (hn:vs.length=n*size) (h1:Bx vs=true) (hb:xs.length+vs.length<=1048576):
 ∃ v' h',(∀ k,CS el size v n vs h k=k v' h')/\Ff h' el size v' (xs++vs)/\AU (Am v) h h'/\(∀ id,Am v' id->Am v id\/B.val h.next<=B.val id)/\NN h' v':=by
 have hle:n<=vs.length:=by rw[hn];exact Nat.le_mul_of_pos_right _ hsz
 rcases b with⟨rfl,rfl⟩|⟨id,g,m,Ak,rfl,b1,b2,b3,b4,b5,b6,b7,b8,b9,b10⟩
 ·cases n with
  |zero=>
   have:vs=[]:=List.eq_nil_of_length_eq_zero (by simpa using hn)
   subst this
   exact⟨.l0,h,fun k=>rfl,Ff.nil h el size,AU.refl _ h,fun id i=>.inl i,fun _ _ _ _ _ _ e=>by cases e⟩
  |succ n=>
   obtain⟨h',a1,a2,a3,Ak,c1,c2,c3,c4,c5,c6,c7⟩:=DT el vs h (by omega)
   have hble:Nat.ble (n+1) 1048576=true:=by rw[Nat.ble_eq];simp at hb;omega
   refine⟨.l h.next 0 0 (n+1) vs.length none,h',fun k=>?_,.inr ⟨h.next,0,n+1,Ak,rfl,by omega,hn,by rw[a2.floor];exact hf,by omega,c1,⟨by omega,by omega⟩,c4,c5,c6,c7⟩,a2.mono fun _ _ h=>h.elim,fun id i=>?_,fun _ _ _ _ _ _ e=>by cases e;exact⟨Ak,c1,c3⟩⟩
   ·show(Ap (Nat.ble (n+1) 1048576) fun _=>alloc el vs h fun id h=>k (.l id 0 0 (n+1) vs.length none) h)=_
    rw[hble,AG,a1]
   ·obtain⟨_,_,_,_,_,e⟩:=i;cases e;exact .inr (Nat.le_refl _)
 ·obtain⟨next,floor,heap⟩:=h
  obtain⟨cur,min,sz,cells,bel,fr⟩:=Ak
  simp only at b6 b7 b8 b9 b10
  obtain⟨tr,t1,t2,t3⟩:=Br vs sz cells (by omega)
  obtain⟨hp,s1,s2,s3⟩:=Bv id (⟨Nat.succ cur,min,Nat.add sz (Nat.mul n size),tr,bel,fr⟩:Gn) heap
  have e1:Nat.ble min g=true:=by rw[Nat.ble_eq];exact b6.1
  have e2:B.KF floor id=true:=by
   cases floor<;>first|rfl|(show Nat.ble _ _=true;rw[Nat.ble_eq];exact b3)
  have e3:Nat.add 0 (Nat.mul m size)=sz:=by
   show 0+m*size=sz
   omega
  have e3':Nat.ble sz sz=true:=by rw[Nat.ble_eq];exact Nat.le_refl _
  have e4:Nat.beq xs.length sz=true:=by rw[b7];simp
  have e4':Nat.beq sz sz=true:=Nat.beq_refl _
  have e9:LI size (Nat.add m n)=none:=JX (by show 1<=m+n;omega)
  have e5:Nat.ble 1 m=true:=by rw[Nat.ble_eq];exact b1
  have hm:m<=xs.length:=by rw[b2];exact Nat.le_mul_of_pos_right _ hsz
  have e6:Nat.ble (Nat.add m n) 1048576=true:=by rw[Nat.ble_eq];show m+n<=1048576;omega
  have e7:HF fr sz=true:=by rw[b9];rfl
  have e8:Nat.beq bel el=true:=by rw[b8];simp
  refine⟨.l id (Nat.succ cur) 0 (m+n) (sz+n*size) none,⟨next,floor,hp⟩,fun k=>?_,.inr ⟨id,Nat.succ cur,m+n,_,?_,by omega,?_,b3,b4,s2,?_,?_,b8,b9,fun i y hy=>?_⟩,⟨rfl,Nat.le_refl _,fun id' _ hne=>s3 id' fun e=>hne (by subst e;exact⟨_,_,_,_,_,rfl⟩)⟩,fun id' i=>?_,fun _ _ _ _ _ _ e=>by cases e;exact⟨_,s2,rfl⟩⟩
  ·show CQ (Nat.ble 1 m) el id g 0 m xs.length size n vs ⟨next,floor,heap⟩ k=_
   have b5':heap.get id=some ⟨cur,min,sz,cells,bel,fr⟩:=b5
   simp only[CQ,CI,b5',Al,BD,A2,e3,e1,e2,e3',e4,e4',RB,e5,e6,h1,e7,e8,e9,AG]
   rw[t1,s1];rfl
  ·show V.l id (Nat.succ cur) 0 (m+n) (sz+n*size) none=V.l id (Nat.succ cur) 0 (m+n) (xs++vs).length none
   rw[List.length_append,hn,b7]
  ·rw[List.length_append,hn,b2,Nat.add_mul]
  ·exact⟨by show min<=cur+1;omega,Nat.le_refl _⟩
  ·show Nat.add sz (Nat.mul n size)=(xs++vs).length
   rw[List.length_append,hn,b7];rfl
  ·show tr.BL i=some y
   by_cases hi:i<xs.length
   ·rw[t3 i (.inl (by omega))]
    refine b10 i y ?_
    rwa [List.getElem?_append_left hi]at hy
   ·have hi':i-xs.length<vs.length:=by
     have:=(List.getElem?_eq_some_iff.1 hy).1
     simp at this;omega
    rw[List.getElem?_append_right (by omega)]at hy
    have:=t2 (i-xs.length) y hy
    rwa [show sz+(i-xs.length)=i by omega]at this
  ·obtain⟨_,_,_,_,_,e⟩:=i;cases e;exact .inl ⟨_,_,_,_,_,rfl⟩
/--at one place written -/
theorem QG {h:H} {el:Nat} {v:V} {xs:List V} {j:Nat} {y:V} (b:Ff h el 1 v xs) (tp:NN h v) (hj:j<xs.length) (hfit:j<2 ^ 37) (h1:FI y=true):
 ∃ h',(∀ k,store h (Fb v) (lg v) (Cf v+j) (Cg v) [y] k=k h')/\Ff h' el 1 v (xs.set j y)/\NN h' v/\AU (Am v) h h':=by
 rcases b with⟨rfl,rfl⟩|⟨id,g,m,Ak,rfl,b1,b2,b3,b4,b5,b6,b7,b8,b9,b10⟩
 ·exact absurd hj (Nat.not_lt_zero _)
 obtain⟨blk',b5',hcur⟩:=tp id g 0 m xs.length none rfl
 have hbb:blk'=Ak:=by rw[b5]at b5';exact(Option.some.inj b5').symm
 subst hbb
 obtain⟨next,floor,heap⟩:=h
 obtain⟨cur,min,sz,cells,bel,fr⟩:=blk'
 simp only at b6 b7 b8 b9 b10 hcur
 subst hcur;subst b9
 obtain⟨tr,t1,t2,t3⟩:=Br [y] j cells (by simp;omega)
 obtain⟨hp,s1,s2,s3⟩:=Bv id (⟨cur,cur,sz,tr,bel,0⟩:Gn) heap
 have e1:B.KF floor id=true:=by cases floor<;>first|rfl|(show Nat.ble _ _=true;rw[Nat.ble_eq];exact b3)
 have e2:Nat.ble (Nat.add j 1) xs.length=true:=by rw[Nat.ble_eq];exact hj
 have e3:Bx [y]=true:=by show Bool.rec false true (FI y)=true;rw[h1]
 have e4:HF 0 j=true:=rfl
 have e5:Nat.beq cur cur=true:=Nat.beq_refl cur
 have e6:Nat.ble min cur=true:=by rw[Nat.ble_eq];exact b6.1
 have b5'':heap.get id=some ⟨cur,min,sz,cells,bel,0⟩:=b5
 refine⟨⟨next,floor,hp⟩,fun k=>?_,.inr ⟨id,cur,m,_,by rw[List.length_set],b1,by rw[List.length_set];exact b2,b3,b4,s2,⟨Nat.le_refl _,Nat.le_refl _⟩,by rw[List.length_set];exact b7,b8,rfl,fun i z hz=>?_⟩,fun _ _ _ _ _ _ e=>by cases e;exact⟨_,s2,rfl⟩,⟨rfl,Nat.le_refl _,fun i _ hi=>s3 i fun e=>hi (by subst e;exact⟨_,_,_,_,_,rfl⟩)⟩⟩
 ·show store ⟨next,floor,heap⟩ id cur (0+j) xs.length [y] k=_
  rw[Nat.zero_add]
  simp only[store,CI,b5'',Al,BD,List.length_singleton,e5,e6,e1,e2,e3,e4,AG]
  rw[t1,s1]
 ·show tr.BL i=some z
  rw[List.getElem?_set]at hz
  split at hz
  ·rename_i hij
   subst hij
   first
   |(rw[if_pos hj]at hz;cases hz;exact t2 0 y rfl)
   |(cases hz;exact t2 0 y rfl)
  ·rename_i hij
   rw[t3 i (by simp;omega)]
   exact b10 i z hz
section
variable {P:Program} {S:Spec} {l:List CO} {t:F} {h:H} {K:F->H->Prop}
end
def E3 (size:Nat) (v w:V) (k:V->Bool):Bool:=vL v (fun _=>vI w fun _ n=>A3 n fun a=>Ap (Nat.beq a 0) fun _=>Ap (Nat.beq 0 0) fun _=>k .l0) fun id g off len fin cap=>vI w fun _ n=>A3 n fun a=>Ap (Nat.ble a len) fun _=>
 Option.rec (fun id g off len fin a b k=>DB size id g off len fin a b fun v=>k v) (fun c id g off len fin a b k=>A1 (BP c) (fun _=>Ap (Nat.beq b 0) fun _=>k (.l id g off 0 off (some c))) (fun _=>BU size id g off len fin c a b fun v=>k v)) cap id g off len fin a len k
def FF (size:Nat) (v w:V) (k:V->Bool):Bool:=vL v (fun _=>vI w fun _ n=>A3 n fun b=>Ap (Nat.beq 0 0) fun _=>Ap (Nat.beq b 0) fun _=>k .l0) fun id g off len fin cap=>vI w fun _ n=>A3 n fun b=>Ap (Nat.ble 0 b) fun _=>
 Option.rec (fun id g off len fin a b k=>DB size id g off len fin a b fun v=>k v) (fun c id g off len fin a b k=>A1 (BP c) (fun _=>Ap (Nat.beq b 0) fun _=>k (.l id g off 0 off (some c))) (fun _=>BU size id g off len fin c a b fun v=>k v)) cap id g off len fin 0 b k
section
variable {cf:Bk} {t:F} {h:H} {k:V->H->Bool} {x a:O}
theorem Ul (size:Nat):B0 size x (some a) none cf t h k=E3 size (oV x t) (oV a t) fun v=>k v h:=by
 unfold E3
 simp only[B0,AN,BV]
 congr 1
 funext id g off len fin cap
 congr 1;funext _ n;congr 1;funext a;congr 1;funext _
 cases cap with
 |none=>rfl
 |some c=>
  show A1 (BP c) _ _=A1 (BP c) _ _
  cases BP c<;>rfl
theorem Uz (size:Nat):B0 size x none (some a) cf t h k=FF size (oV x t) (oV a t) fun v=>k v h:=by
 unfold FF
 simp only[B0,AN,BV]
 congr 1
 funext id g off len fin cap
 congr 1;funext _ n;congr 1;funext a;congr 1;funext _
 cases cap with
 |none=>rfl
 |some c=>
  show A1 (BP c) _ _=A1 (BP c) _ _
  cases BP c<;>rfl
end
/--the part behind n of a row that is made -/
def QZ (id:B) (K n:Nat):V:=if n=K then .l id 0 0 0 K (some 0)else .l id 0 n (K-n) K (some (K-n))
theorem Qe {id:B} {K n:Nat} {kd:IntKind} (hKM:K<18446744073709551616) (hn:n<=K) (k:V->Bool):E3 1 (.l id 0 0 K K (some K)) (.i kd (n:Int)) k=k (QZ id K n):=by
 have e1:Nat.ble n K=true:=by rw[Nat.ble_eq];exact hn
 have e2:Nat.ble K K=true:=by rw[Nat.ble_eq];exact Nat.le_refl _
 unfold E3 QZ
 simp only[C0,Cw,Ba,e1,AG]
 by_cases e:n=K
 ·subst e
  rw[if_pos rfl]
  show A1 (BP n) _ (fun _=>BU 1 id 0 0 n n n n n fun v=>k v)=_
  rw[FR hKM,BC]
  have e0:Nat.ble (Nat.succ n) 18446744073709551616=true:=by rw[Nat.ble_eq];exact hKM
  have e3:Nat.beq n n=true:=Nat.beq_refl n
  unfold BU
  rw[e0,AG,e2,AG,e3]
  rfl
 ·rw[if_neg e]
  show A1 (BP K) _ (fun _=>BU 1 id 0 0 K K K n K fun v=>k v)=_
  rw[FR hKM,BC,D2 hKM (Nat.le_refl _) (by omega),Nat.zero_add,Nat.mul_one]
theorem SG {id:B} {K n:Nat} {kd:IntKind} (hKM:K<18446744073709551616) (hn:n<=K) (hK:0<K) (k:V->Bool):FF 1 (.l id 0 0 K K (some K)) (.i kd (n:Int)) k=k (.l id 0 0 n K (some K)):=by
 have e1:Nat.ble 0 n=true:=by rw[Nat.ble_eq];exact Nat.zero_le _
 unfold FF
 simp only[C0,Cw,Ba,e1,AG]
 show A1 (BP K) _ (fun _=>BU 1 id 0 0 K K K 0 n fun v=>k v)=_
 rw[FR hKM,BC,D2 hKM hn hK]
 simp only[Nat.zero_mul,Nat.add_zero,Nat.sub_zero]
end Go.Ev
namespace Go.Ev
open Go
/--frames -/
def bH (n m:Nat) (v:V) (t:F):V:=get n (put m v t)
theorem AB (n m:Nat) (v:V) (t:F):get n (put m v t)=if n=m then v else if n<512/\m<512 then get n t else bH n m v t:=by
 by_cases h:n<512/\m<512
 ·rw[O8 n m v t h.1 h.2,if_pos h]
 ·rw[if_neg h]
  by_cases e:n=m
  ·subst e
   rw[if_pos rfl]
   exact(Classical.choose_spec (FU (AR n) v t)).2.1
  ·rw[if_neg e];rfl
section
variable {P:Program} {h:H} {N:Nx} {kd:IntKind} {a b:Int}
theorem Xe:H2 P (C1 BB) (.i kd a) (.i kd b) h N=N.go P (.i kd (kd.wrap (a+b))) h:=Ai fun k=>by show Ap (CA kd kd) _=_;rw[BT,AG,kQ]
theorem Wk:H2 P (C1 Bq) (.i kd a) (.i kd b) h N=N.go P (.i kd (kd.wrap (a-b))) h:=Ai fun k=>by show Ap (CA kd kd) _=_;rw[BT,AG,mh]
theorem YL:H2 P (C1 HB) (.i kd a) (.i kd b) h N=N.go P (.i kd (kd.wrap (a*b))) h:=Ai fun k=>by show Ap (CA kd kd) _=_;rw[BT,AG,kD]
theorem WB:H2 P (C1 Bt) (.i kd a) (.i kd b) h N=N.go P (.b (decide (a<b))) h:=Ai fun k=>by show Ap (CA kd kd) _=_;rw[BT,AG,lf]
theorem YN:H2 P (C1 Dc) (.i kd a) (.i kd b) h N=N.go P (.b (decide (b<a))) h:=Ai fun k=>by show Ap (CA kd kd) _=_;rw[BT,AG,j6]
theorem Y6:H2 P (C1 Ew) (.i kd a) (.i kd b) h N=N.go P (.b (decide (a<=b))) h:=Ai fun k=>by show Ap (CA kd kd) _=_;rw[BT,AG,ji]
theorem Xp:H2 P (C1 EN) (.i kd a) (.i kd b) h N=N.go P (.b (decide (b<=a))) h:=Ai fun k=>by show Ap (CA kd kd) _=_;rw[BT,AG,gN]
theorem Z2:H2 P (C1 Ec) (.i kd a) (.i kd b) h N=N.go P (.b (decide (a=b))) h:=Ai fun k=>by show Ap (CA kd kd) _=_;rw[BT,AG,td]
theorem bI:H2 P (C1 J6) (.i kd a) (.i kd b) h N=N.go P (.b (!decide (a=b))) h:=Ai fun k=>by show Ap (CA kd kd) _=_;rw[BT,AG,lC]
theorem YY (ha:0<=a) (hb:0<b):H2 P (C1 KM) (.i kd a) (.i kd b) h N=N.go P (.i kd (kd.wrap (a/b))) h:=Ai fun k=>by
 show Ap (CA kd kd) _=_
 rw[BT,AG]
 have e:JM b 0=false:=by rw[ED];simp;omega
 unfold KM
 rw[e]
 show Ez (Int.tdiv a b) kd (BQ kd) k=_
 rw[CK,Int.tdiv_eq_ediv_of_nonneg ha]
theorem dp (ha:0<=a) (hb:0<b):H2 P lu (.i kd a) (.i kd b) h N=N.go P (.i kd (a%b)) h:=Ai fun k=>by
 show Ap (CA kd kd) (fun _=>Pc kd a b k)=_
 rw[BT,AG]
 have e:JM b 0=false:=by rw[ED];simp;omega
 unfold Pc
 rw[e]
 show Er (Int.tmod a b) (fun n=>k (.i kd n))=_
 rw[EW,Int.tmod_eq_emod_of_nonneg ha]
theorem Jd {m:Nat} (hm:BQ kd=m) (ha:0<=a) (ha2:a<=m) (hb:0<=b) (hb2:b<=m):H2 P (C1 NF) (.i kd a) (.i kd b) h N=N.go P (.i kd ((a.toNat&&&b.toNat:Nat):Int)) h:=Ai fun k=>by
 show Ap (CA kd kd) _=_
 rw[BT,AG]
 obtain⟨x,rfl⟩:=Int.eq_ofNat_of_zero_le ha
 obtain⟨y,rfl⟩:=Int.eq_ofNat_of_zero_le hb
 have e1:Nat.ble x (BQ kd)=true:=by rw[Nat.ble_eq];omega
 have e2:Nat.ble y (BQ kd)=true:=by rw[Nat.ble_eq];omega
 show A3 (Int.ofNat x) (fun a=>A3 (Int.ofNat y) _)=_
 rw[A6,A6,e1,AG,e2,AG,A2];rfl
theorem M9 {m:Nat} (hm:BQ kd=m) (ha:0<=a) (ha2:a<=m) (hb:0<=b) (hb2:b<=m):H2 P (C1 YP) (.i kd a) (.i kd b) h N=N.go P (.i kd ((a.toNat|||b.toNat:Nat):Int)) h:=Ai fun k=>by
 show Ap (CA kd kd) _=_
 rw[BT,AG]
 obtain⟨x,rfl⟩:=Int.eq_ofNat_of_zero_le ha
 obtain⟨y,rfl⟩:=Int.eq_ofNat_of_zero_le hb
 have e1:Nat.ble x (BQ kd)=true:=by rw[Nat.ble_eq];omega
 have e2:Nat.ble y (BQ kd)=true:=by rw[Nat.ble_eq];omega
 show A3 (Int.ofNat x) (fun a=>A3 (Int.ofNat y) _)=_
 rw[A6,A6,e1,AG,e2,AG,A2];rfl
theorem J5 {m:Nat} (hm:BQ kd=m) (ha:0<=a) (ha2:a<=m) (hb:0<=b) (hb2:b<=m):H2 P (C1 KH) (.i kd a) (.i kd b) h N=N.go P (.i kd ((a.toNat ^^^ b.toNat:Nat):Int)) h:=Ai fun k=>by
 show Ap (CA kd kd) _=_
 rw[BT,AG]
 obtain⟨x,rfl⟩:=Int.eq_ofNat_of_zero_le ha
 obtain⟨y,rfl⟩:=Int.eq_ofNat_of_zero_le hb
 have e1:Nat.ble x (BQ kd)=true:=by rw[Nat.ble_eq];omega
 have e2:Nat.ble y (BQ kd)=true:=by rw[Nat.ble_eq];omega
 show A3 (Int.ofNat x) (fun a=>A3 (Int.ofNat y) _)=_
 rw[A6,A6,e1,AG,e2,AG,A2];rfl
theorem JG {m:Nat} (hm:BQ kd=m) (ha:0<=a) (ha2:a<=m) (hb:0<=b) (hb2:b<=m):H2 P (C1 NR) (.i kd a) (.i kd b) h N=N.go P (.i kd ((a.toNat ^^^ (a.toNat&&&b.toNat):Nat):Int)) h:=Ai fun k=>by
 show Ap (CA kd kd) _=_
 rw[BT,AG]
 obtain⟨x,rfl⟩:=Int.eq_ofNat_of_zero_le ha
 obtain⟨y,rfl⟩:=Int.eq_ofNat_of_zero_le hb
 have e1:Nat.ble x (BQ kd)=true:=by rw[Nat.ble_eq];omega
 have e2:Nat.ble y (BQ kd)=true:=by rw[Nat.ble_eq];omega
 show A3 (Int.ofNat x) (fun a=>A3 (Int.ofNat y) _)=_
 rw[A6,A6,e1,AG,e2,AG,A2];rfl
theorem Z0 {kd':IntKind} (hb:0<=b):H2 P (Nc Lj) (.i kd a) (.i kd' b) h N=N.go P (.i kd (kd.wrap (a*((2 ^ (min b.toNat kd.bits):Nat):Int)))) h:=Ai fun k=>by
 show A3 b _=_
 rw[Cr hb,fR]
theorem WX {kd':IntKind} (hb:0<=b):H2 P (Nc LM) (.i kd a) (.i kd' b) h N=N.go P (.i kd (a/((2 ^ (min b.toNat kd.bits):Nat):Int))) h:=Ai fun k=>by
 show A3 b _=_
 rw[Cr hb]
 show Er (Int.fdiv a ((2 ^ _:Nat):Int)) (fun n=>k (.i kd n))=_
 rw[EW,Int.fdiv_eq_ediv_of_nonneg _ (Int.natCast_nonneg _)]
theorem au {x y:Bool}:H2 P (TC false) (.b x) (.b y) h N=N.go P (.b (x==y)) h:=Ai fun k=>by cases x<;>cases y<;>rfl
theorem Y9 {x y:Bool}:H2 P (TC true) (.b x) (.b y) h N=N.go P (.b (x !=y)) h:=Ai fun k=>by cases x<;>cases y<;>rfl
theorem We {x:Bool}:H1 P kS (.b x) h N=N.go P (.b (!x)) h:=Ai fun k=>rfl
theorem aH:H1 P gm (.i kd a) h N=N.go P (.i kd (kd.wrap (-a))) h:=Ai fun k=>CK _ _ _
theorem Uv {kd':IntKind}:H1 P (WA kd) (.i kd' a) h N=N.go P (.i kd (kd.wrap a)) h:=Ai fun k=>rfl
theorem Tt {v:V} {vs:List V}:H1 P (Rl 0) (.tu (v::vs)) h N=N.go P v h:=Ai fun k=>rfl
theorem Uc {u v:V} {vs:List V}:H1 P (Rl 1) (.tu (u::v::vs)) h N=N.go P v h:=Ai fun k=>rfl
theorem U9 {u w v:V} {vs:List V}:H1 P (Rl 2) (.tu (u::w::v::vs)) h N=N.go P v h:=Ai fun k=>rfl
theorem VV {u w z v:V} {vs:List V}:H1 P (Rl 3) (.tu (u::w::z::v::vs)) h N=N.go P v h:=Ai fun k=>rfl
theorem Zb:H2 P ib (.i kd a) (.i kd b) h N=N.go P (.i kd (min a b)) h:=Ai fun k=>by show Ap (CA kd kd) _=_;rw[BT,AG]
theorem Zm:H2 P oQ (.i kd a) (.i kd b) h N=N.go P (.i kd (max a b)) h:=Ai fun k=>by show Ap (CA kd kd) _=_;rw[BT,AG]
theorem UC {q:Bool} {x y:V}:H3 P V4 (.b q) x y h N=N.go P (cond q x y) h:=Ai fun k=>rfl
def xe (P:Program) (d:Nat) (cs:List V) (h:H) (N:Nx):Prop:=H1 P (N5 d) (.a cs) h N
theorem Qp {d:Nat} {cs:List V}:H1 P (N5 d) (.a cs) h N=if d<cs.length then N.go P (cs.getD d .u) h else xe P d cs h N:=by
 split
 ·rename_i hd
  exact Ai fun k=>by
   show CM (cs[d]?) k=_
   rw[show cs[d]? =some (cs.getD d .u)by simp[hd]];rfl
 ·rfl
theorem PW {d size:Nat} {cs:List V}:H1 P (O0 d size) (.a cs) h N=N.go P (.a ((cs.drop d).take size)) h:=Ai fun k=>rfl
theorem LW {d:Nat} {id:B} {g off fin:Nat}:H1 P (JV d) (.p id g off fin) h N=N.go P (.p id g (off+d) fin) h:=Ai fun k=>rfl
theorem NH {id:B} {g off fin:Nat}:H1 P Kf (.p id g off fin) h N=N.go P (.p id g off fin) h:=Ai fun k=>rfl
/--an element's place -/
def IX (P:Program) (size:Nat) (v:V) (i:Nat) (h:H) (N:Nx):Prop:=HV P (Mf size v i) h N
theorem Zv {size:Nat} {v:V} (ha:0<=a):H2 P (Qb size) v (.i kd a) h N=IX P size v a.toNat h N:=by
 unfold H2 IX
 congr 1
 funext k
 show A3 a _=_
 rw[Cr ha]
theorem lQ {size i:Nat} {id:B} {g off len fin:Nat} {cap:Option Nat} (hi:i<len):IX P size (.l id g off len fin cap) i h N=N.go P (.p id g (off+i*size) fin) h:=Ai fun k=>by
 show Ap (Nat.ble (i+1) len) (fun _=>k (.p id g (off+i*size) fin))=_
 have:Nat.ble (i+1) len=true:=by rw[Nat.ble_eq];exact hi
 rw[this,AG]
theorem PJ {len size:Nat} {id:B} {g off fin:Nat} (ha:0<=a) (hl:a<len):H2 P (Ku len size) (.p id g off fin) (.i kd a) h N=N.go P (.p id g (off+a.toNat*size) fin) h:=Ai fun k=>by
 show A3 a _=_
 rw[Cr ha,oh (by omega)]
theorem O7:H1 P Lv .l0 h N=N.go P (.i .i64 0) h:=Ai fun k=>rfl
theorem SW {id:B} {g off len fin:Nat} {cap:Option Nat}:H1 P Lv (.l id g off len fin cap) h N=N.go P (.i .i64 (len:Int)) h:=Ai fun k=>rfl
theorem VK {l:List UInt8}:H1 P V7 (sv l) h N=N.go P (.i .i64 (l.length:Int)) h:=Ai fun k=>rfl
theorem KX {l:List UInt8} (ha:0<=a) (hl:a<l.length):H2 P LZ (sv l) (.i kd a) h N=N.go P (.i .u8 ((l.getD a.toNat 0).toNat:Int)) h:=Ai fun k=>by
 show A3 a _=_
 rw[Cr ha,Ue (by omega)]
theorem PH {len size:Nat} {cs:List V} (ha:0<=a) (hl:a<len) (hc:a.toNat*size<cs.length):H2 P (OW len size) (.a cs) (.i kd a) h N=N.go P (cs.getD (a.toNat*size) .u) h:=Ai fun k=>by
 show A3 a _=_
 have:Nat.ble (a.toNat+1) len=true:=by rw[Nat.ble_eq];omega
 rw[Cr ha]
 show Ap (Nat.ble (a.toNat+1) len) (fun _=>CM (cs[a.toNat*size]?) k)=_
 rw[this,AG,show cs[a.toNat*size]? =some (cs.getD (a.toNat*size) .u)by simp[hc]];rfl
theorem bp {x y:List UInt8} (hl:x.length+y.length<=1048576):H2 P Sp (sv x) (sv y) h N=N.go P (sv (x++y)) h:=Ai fun k=>Va hl k
theorem WE {x y:List UInt8}:H2 P (MO F3) (sv x) (sv y) h N=N.go P (.b (decide (x=y))) h:=Ai fun k=>Zc x y k
theorem ZH {x y:List UInt8}:H2 P (MO fun a b c d=>!F3 a b c d) (sv x) (sv y) h N=N.go P (.b (!decide (x=y))) h:=Ai fun k=>Zq x y k
theorem Uu {x y:List UInt8}:H2 P pW (sv x) (sv y) h N=N.go P (.i .i64 (Io (decide (x=y)) (Op.bytesLess x y))) h:=Ai fun k=>cR x y k
theorem VL {x y:List UInt8}:H2 P (Sc fun a b c d=>Fi a b c d||F3 a b c d) (sv x) (sv y) h N=N.go P (sv (bif Op.bytesLess x y||decide (x=y)then x else y)) h:=Ai fun k=>by
 have e:(Fi x.length (pk x) y.length (pk y)||F3 x.length (pk x) y.length (pk y))=(Op.bytesLess x y||decide (x=y)):=by rw[HL,Bs]
 rw[<-e];unfold Sc;rw[Cq,Cq]
 show A1 (Fi x.length (pk x) y.length (pk y)||F3 x.length (pk x) y.length (pk y)) _ _=_
 generalize (Fi x.length (pk x) y.length (pk y)||F3 x.length (pk x) y.length (pk y))=b
 cases b<;>rfl
theorem Uy {x y:List UInt8}:H2 P (Sc fun a b c d=>!Fi a b c d) (sv x) (sv y) h N=N.go P (sv (bif Op.bytesLess x y then y else x)) h:=Ai fun k=>by
 rw[Bs];unfold Sc;rw[Cq,Cq]
 show A1 (!Fi x.length (pk x) y.length (pk y)) _ _=_
 generalize Fi x.length (pk x) y.length (pk y)=b
 cases b<;>rfl
theorem cQ {x y:List UInt8}:H2 P (MO Fi) (sv x) (sv y) h N=N.go P (.b (Op.bytesLess x y)) h:=Ai fun k=>dN x y k
theorem Z6 {x y:List UInt8}:H2 P (MO fun a b c d=>!Fi a b c d) (sv x) (sv y) h N=N.go P (.b (!Op.bytesLess x y)) h:=Ai fun k=>by
 unfold MO;rw[Cq,Cq,Bs]
theorem dz {x y:List UInt8}:H2 P (MO fun a b c d=>Fi a b c d||F3 a b c d) (sv x) (sv y) h N=N.go P (.b (Op.bytesLess x y||decide (x=y))) h:=Ai fun k=>by
 unfold MO;rw[Cq,Cq];show k (.b (Fi x.length (pk x) y.length (pk y)||F3 x.length (pk x) y.length (pk y)))=_;rw[HL,Bs]
theorem di {x y:List UInt8}:H2 P (MO fun a b c d=>!(Fi a b c d||F3 a b c d)) (sv x) (sv y) h N=N.go P (.b (!(Op.bytesLess x y||decide (x=y)))) h:=Ai fun k=>by
 unfold MO;rw[Cq,Cq];show k (.b (!(Fi x.length (pk x) y.length (pk y)||F3 x.length (pk x) y.length (pk y))))=_;rw[HL,Bs]
theorem bZ {l:List UInt8} {kd':IntKind} (ha:0<=a) (hab:a<=b) (hb:b<=l.length):H3 P lX (sv l) (.i kd a) (.i kd' b) h N=N.go P (sv ((l.take b.toNat).drop a.toNat)) h:=Ai fun k=>by
 show A3 a (fun p=>A3 b fun q=>PZ (sv l) p q k)=_
 rw[Cr ha,Cr (by omega),NZ (by omega) (by omega)]
theorem df {l:List UInt8} (ha:0<=a) (hb:a<=l.length):H2 P mU (sv l) (.i kd a) h N=N.go P (sv (l.take a.toNat)) h:=Ai fun k=>by
 show A3 a (fun q=>PZ (sv l) 0 q k)=_
 rw[Cr ha,NZ (by omega) (by omega),List.drop_zero]
theorem aq {l:List UInt8} (ha:0<=a) (hb:a<=l.length):H2 P sX (sv l) (.i kd a) h N=N.go P (sv (l.drop a.toNat)) h:=Ai fun k=>by
 show A3 a (fun p=>M8 (sv l) p k)=_
 rw[Cr ha,VS (by omega)]
theorem RX {l:List UInt8}:H1 P Rx (sv l) h N=N.go P (sv l) h:=Ai fun k=>rfl
theorem Se {ne:Bool}:H2 P (Rv Tc ne) .l0 .l0 h N=N.go P (.b (!ne)) h:=Ai fun k=>by cases ne<;>rfl
theorem Qw {ne:Bool} {id:B} {g off len fin:Nat} {cap:Option Nat}:H2 P (Rv Tc ne) (.l id g off len fin cap) .l0 h N=N.go P (.b ne) h:=Ai fun k=>by cases ne<;>rfl
theorem SZ {ne:Bool}:H2 P (Rv we ne) .p0 .p0 h N=N.go P (.b (!ne)) h:=Ai fun k=>by cases ne<;>rfl
theorem Rj {ne:Bool} {id:B} {g off fin:Nat}:H2 P (Rv we ne) (.p id g off fin) .p0 h N=N.go P (.b ne) h:=Ai fun k=>by cases ne<;>rfl
end
def rn (x:V) (k:V->Bool):Bool:=vI x fun _ n=>A3 n fun n=>Ap (Nat.ble n 127) fun _=>k (.s 1 n)
theorem Yk {P:Program} {t:F} {h:H} {N:Nx} (x:O):OR P (KQ x) t h N=H1 P rn (oV x t) h N:=BZ fun cf k=>by simp only[KQ,AN];rfl
theorem Sr {k:Nat} (h:k<256):V.s 1 k=sv [UInt8.ofNat k]:=by
 unfold sv
 have:(UInt8.ofNat k).toNat=k:=by simp;omega
 simp[pk,this]
theorem bf {P:Program} {h:H} {N:Nx} {kd:IntKind} {a:Int} (ha:0<=a) (hb:a<=127):H1 P rn (.i kd a) h N=N.go P (sv [UInt8.ofNat a.toNat]) h:=Ai fun k=>by
 show A3 a _=_
 have e:Nat.ble a.toNat 127=true:=by rw[Nat.ble_eq];omega
 rw[Cr ha,e,AG,Sr (by omega)]
def LD (P:Program) (v:V) (h:H) (N:Nx):Prop:=HV P (fun k=>vP v fun id g off fin=>DP h id g off fin k) h N
def LA (P:Program) (size:Nat) (v:V) (h:H) (N:Nx):Prop:=HV P (fun k=>vP v fun id g off fin=>Bo h id g off fin size fun vs=>k (.a vs)) h N
def L1 (P:Program) (id:B) (g off fin:Nat) (h:H) (N:Nx):Prop:=HV P (DP h id g off fin) h N
def LN (P:Program) (id:B) (g off fin size:Nat) (h:H) (N:Nx):Prop:=HV P (fun k=>Bo h id g off fin size fun vs=>k (.a vs)) h N
def BS (P:Program) (v:V) (h:H) (N:Nx):Prop:=HV P (RV h v) h N
section
variable {P:Program} {t:F} {h:H} {N:Nx} {o x:O} {id:B} {g off fin size:Nat}
theorem VW:OR P (AW o) t h N=LD P (oV o t) h N:=BZ fun cf k=>UQ ..
theorem TG:OR P (AT size o) t h N=LA P size (oV o t) h N:=BZ fun cf k=>SP ..
theorem YT:OR P (E2 x) t h N=BS P (oV x t) h N:=BZ fun cf k=>ZG ..
theorem wI:LD P (.p id g off fin) h N=L1 P id g off fin h N:=rfl
theorem wH:LA P size (.p id g off fin) h N=LN P id g off fin size h N:=rfl
theorem Yq {h:H} (k:V->Bool):DP (A4 h) id g off fin k=DP h id g off fin k:=by cases h;rfl
section
variable {n:Nat} {l:List CO} {K:F->H->Prop} {v:V}
theorem gK:L1 P id g off fin (A4 h) (.u n l t h K)=L1 P id g off fin h (.d n l t K):=by
 unfold L1 HV
 simp only[Yq,Ry,Vd,Dr]
theorem pS:LN P id g off fin size (A4 h) (.u n l t h K)=LN P id g off fin size h (.d n l t K):=by
 have e:∀ k:List V->Bool,Bo (A4 h) id g off fin size k=Bo h id g off fin size k:=fun k=>by cases h;rfl
 unfold LN HV
 simp only[e,Ry,Vd,Dr]
theorem ku:BS P v (A4 h) (.u n l t h K)=BS P v h (.d n l t K):=by
 have e:RV (A4 h) v=RV h v:=by cases h;rfl
 unfold BS HV
 simp only[e,Ry,Vd,Dr]
end
theorem Row.l1 {xs:List V} (r:Row h id g 0 xs) (hi:off<xs.length) (hf:off<fin):L1 P id g off fin h N=N.go P (xs.getD off .u) h:=Ai fun k=>
 HD (by have:=r.2 off (xs.getD off .u) (by simp[hi]);rwa [Nat.zero_add]at this) hf k
theorem Gb.ln {h0:H} {v:V} {xs:List V} (a:Gb h0 v xs):H1 P Lv v h N=N.go P (.i .i64 (xs.length:Int)) h:=Ai fun k=>by unfold Lv;rw[a.len]
theorem Gb.ld {v:V} {xs:List V} {i:Nat} (a:Gb h v xs) (hi:i<xs.length):L1 P (Fb v) (lg v) (Cf v+i) (Cg v) h N=N.go P (xs.getD i .u) h:=Ai fun k=>FN a (by simp[hi]) k
theorem Il.ln {h0:H} {v:V} {xs:List Int} (a:Il h0 v xs):H1 P Lv v h N=N.go P (.i .i64 (xs.length:Int)) h:=by rw[Gb.ln a,List.length_map]
theorem Il.ix {h0:H} {v:V} {xs:List Int} {i:Nat} (a:Il h0 v xs) (hi:i<xs.length):IX P 1 v i h N=N.go P (.p (Fb v) (lg v) (Cf v+i) (Cg v)) h:=Ai fun k=>a.idx hi k
theorem Il.ld {v:V} {xs:List Int} {i:Nat} (a:Il h v xs) (hi:i<xs.length):L1 P (Fb v) (lg v) (Cf v+i) (Cg v) h N=N.go P (.i .i64 (xs.getD i 0)) h:=Ai fun k=>a.rd hi k
theorem Bl.ld {v:V} {xs:List Bool} {i:Nat} (a:Bl h v xs) (hi:i<xs.length):L1 P (Fb v) (lg v) (Cf v+i) (Cg v) h N=N.go P (.b (xs.getD i false)) h:=Ai fun k=>a.rd hi k
/--a slice of texts -/
def Tl (h:H) (v:V) (xs:List (List UInt8)):Prop:=Gb h v (xs.map sv)
theorem Tl.grow {h h':H} {v:V} {xs:List (List UInt8)} (a:Tl h v xs) (s:AU AQ h h'):Tl h' v xs:=Gb.grow a s
theorem Tl.ld {v:V} {xs:List (List UInt8)} {i:Nat} (a:Tl h v xs) (hi:i<xs.length):L1 P (Fb v) (lg v) (Cf v+i) (Cg v) h N=N.go P (sv (xs.getD i [])) h:=Ai fun k=>FN a (by simp[hi]) k
theorem Gb.bs {v:V} {l:List UInt8} (a:Gb h v (l.map bv)) (hne:l≠[]):BS P v h N=N.go P (sv l) h:=Ai fun k=>UG a hne k
end
def Nm (ks:List KD) (ne:Bool) (x y:V) (k:V->Bool):Bool:=vA x fun xs=>vA y fun ys=>MD ks xs ys fun r=>k (.b (xor ne r))
section
variable {P:Program} {t:F} {h:H} {N:Nx} {ks:List KD} {ne:Bool} {kd:IntKind}
theorem ZW {x y:O}:OR P (Jz ks ne x y) t h N=H2 P (Nm ks ne) (oV x t) (oV y t) h N:=BZ fun cf k=>by simp only[Jz,AN,Cd];rfl
theorem K0 {a b:List UInt8} {xs ys:List V} {k:Bool->Bool}:MD (.s::ks) (sv a::xs) (sv b::ys) k=if a=b then MD ks xs ys k else k false:=by
 show A1 (F3 a.length (pk a) b.length (pk b)) (fun _=>(fun r=>A1 r (fun _=>MD ks xs ys k) (fun _=>k false)) true) (fun _=>(fun r=>A1 r (fun _=>MD ks xs ys k) (fun _=>k false)) false)=_
 rw[HL]
 by_cases e:a=b
 ·rw[if_pos e,decide_eq_true e];rfl
 ·rw[if_neg e,decide_eq_false e];rfl
theorem rQ {a b:Int} {xs ys:List V} {k:Bool->Bool}:MD (.i::ks) (.i kd a::xs) (.i kd b::ys) k=if a=b then MD ks xs ys k else k false:=by
 show Ap (CA kd kd) (fun _=>A1 (JM a b) (fun _=>(fun r=>A1 r (fun _=>MD ks xs ys k) (fun _=>k false)) true) (fun _=>(fun r=>A1 r (fun _=>MD ks xs ys k) (fun _=>k false)) false))=_
 rw[BT,AG,ED]
 by_cases e:a=b
 ·rw[if_pos e,show(a==b)=true by simpa using e];rfl
 ·rw[if_neg e,show(a==b)=false by simpa using e];rfl
theorem Vv {a b:Bool} {xs ys:List V} {k:Bool->Bool}:MD (.b::ks) (.b a::xs) (.b b::ys) k=if a=b then MD ks xs ys k else k false:=by
 cases a<;>cases b<;>rfl
theorem RQ {xs ys:List V} {k:Bool->Bool}:MD [] xs ys k=k true:=rfl
/--an entry -/
theorem mf {a b v w:List UInt8} {n m:Int} {d e:Bool}:H2 P (Nm [.s,.i,.b,.s] ne) (.a [sv a,.i kd n,.b d,sv v]) (.a [sv b,.i kd m,.b e,sv w]) h N=N.go P (.b (xor ne (decide (a=b/\n=m/\d=e/\v=w)))) h:=Ai fun k=>by
 unfold Nm;rw[KN,KN]
 rw[K0,rQ,Vv,K0,RQ]
 by_cases h1:a=b<;>by_cases h2:n=m<;>by_cases h3:d=e<;>by_cases h4:v=w<;>simp[h1,h2,h3,h4]
/--a write -/
theorem qT {a b v w:List UInt8} {d e:Bool}:H2 P (Nm [.s,.b,.s] ne) (.a [sv a,.b d,sv v]) (.a [sv b,.b e,sv w]) h N=N.go P (.b (xor ne (decide (a=b/\d=e/\v=w)))) h:=Ai fun k=>by
 unfold Nm;rw[KN,KN]
 rw[K0,Vv,K0,RQ]
 by_cases h1:a=b<;>by_cases h3:d=e<;>by_cases h4:v=w<;>simp[h1,h3,h4]
/--a pair -/
theorem oe {a b v w:List UInt8}:H2 P (Nm [.s,.s] ne) (.a [sv a,sv v]) (.a [sv b,sv w]) h N=N.go P (.b (xor ne (decide (a=b/\v=w)))) h:=Ai fun k=>by
 unfold Nm;rw[KN,KN]
 rw[K0,K0,RQ]
 by_cases h1:a=b<;>by_cases h4:v=w<;>simp[h1,h4]
end
/--what comes with another memory -/
def HM (P:Program) (g:(V->H->Bool)->Bool) (N:Nx):Prop:=∃ v h',(∀ k,g k=k v h')/\N.go P v h'
theorem FM {P:Program} {r:CE} {t:F} {h:H} {N:Nx} {g:(V->H->Bool)->Bool} (e:∀ cf k,r cf t h k=g k):OR P r t h N=HM P g N:=
 propext ⟨fun⟨v,h',⟨cf,_,c2⟩,k⟩=>⟨v,h',fun k=>(e cf k).symm.trans (c2 k),k⟩,fun⟨v,h',c,k⟩=>⟨v,h',⟨_,J0 P,fun k=>(e _ k).trans (c k)⟩,k⟩⟩
theorem DQ {P:Program} {g:(V->H->Bool)->Bool} {N:Nx} {v:V} {h':H} (e:∀ k,g k=k v h') (k:N.go P v h'):HM P g N:=⟨v,h',e,k⟩
/--a new block of these cells;'mk' of its name is what comes -/
def AL (P:Program) (el:Nat) (cs:List V) (mk:B->V) (h:H) (N:Nx):Prop:=HM P (fun k=>alloc el cs h fun id h'=>k (mk id) h') N
theorem AL.own {P:Program} {el:Nat} {cs:List V} {mk:B->V} {h:H} {N:Nx} (hl:cs.length<2 ^ 37) (hf:B.val h.floor<=B.val h.next)
 (k:∀ h',AU AQ h h'->B.val h'.next=B.val h.next+1->DM h' h.next cs->N.go P (mk h.next) h'):AL P el cs mk h N:=by
 obtain⟨h',a1,a2,a3,a4⟩:=IT el cs h hl hf
 exact DQ (fun k=>a1 _) (k h' a2 a4 a3)
theorem AL.v9 {P:Program} {el:Nat} {cs:List V} {mk:B->V} {h:H} {N:Nx} (hl:cs.length<2 ^ 37) (hf:B.val h.floor<=B.val h.next)
 (k:∀ h',AU AQ h h'->B.val h'.next=B.val h.next+1->Is h' h.next el cs->N.go P (mk h.next) h'):AL P el cs mk h N:=by
 obtain⟨h',a1,a2,a3,Ak,b1,b2,b3,b4,b5,b6,b7⟩:=DT el cs h (by omega)
 exact DQ (fun k=>a1 _) (k h' a2 a3 ⟨Ak,b1,b3,b2,b6,b5,by rw[a2.floor];exact hf,by omega,b7⟩)
/--a list of cells,filled:then 'f' of them -/
def FL (P:Program) (ps:List Pt) (t:F) (cs:List V) (el:Option (Nat×Nat)) (h:H) (N:Nx):Prop:=match el with
 |none=>HM P (fun k=>EJ ps t cs fun ds=>k (.a ds) h) N
 |some (el,len)=>HM P (fun k=>EJ ps t cs fun ds=>alloc el ds h fun id h'=>k (.l id 0 0 len ds.length (some len)) h') N
def FP (P:Program) (off size:Nat) (v:V) (ps:List Pt) (t:F) (cs:List V) (el:Option (Nat×Nat)) (h:H) (N:Nx):Prop:=match el with
 |none=>HM P (fun k=>Fs off size (EJ ps) t cs (fun ds=>k (.a ds) h) v) N
 |some (el,len)=>HM P (fun k=>Fs off size (EJ ps) t cs (fun ds=>alloc el ds h fun id h'=>k (.l id 0 0 len ds.length (some len)) h') v) N
/--a block of one value -/
def BX (P:Program) (el:Nat) (v:V) (h:H) (N:Nx):Prop:=HM P (fun k=>Ap (E7 v) fun _=>alloc el (cells v) h fun id h=>k (.p id 0 0 (cells v).length) h) N
def ST (P:Program) (size:Nat) (p x:V) (h:H) (N:Nx):Prop:=HM P (fun k=>vP p fun id g off fin=>Ap (Nat.beq (cells x).length size) fun _=>store h id g off fin (cells x) fun h=>k (.tu []) h) N
def MS (P:Program) (el:Nat) (z:List V) (l c:V) (h:H) (N:Nx):Prop:=HM P (fun k=>vI l fun _ l=>A3 l fun l=>vI c fun _ c=>A3 c fun c=>Ap (Nat.ble l c) fun _=>Ap (Nat.ble c 1048576) fun _=>alloc el (DX z c) h fun id h=>k (.l id 0 0 l (Nat.mul c z.length) (some c)) h) N
def AP (P:Program) (el size:Nat) (s x:V) (h:H) (N:Nx):Prop:=HM P (fun k=>DG size x h fun n vs=>CS el size s n vs h k) N
def AS (P:Program) (el:Nat) (s x:V) (h:H) (N:Nx):Prop:=HM P (fun k=>ET x fun n vs=>CS el 1 s n vs h k) N
def CP (P:Program) (size:Nat) (x y:V) (h:H) (N:Nx):Prop:=HM P (fun k=>vL x (fun _=>O1 y (k (.i .i64 (.ofNat 0)) h)) fun id g off len fin _=>Jf size y h k id g off len fin) N
def SB (P:Program) (el:Nat) (x:V) (h:H) (N:Nx):Prop:=HM P (fun k=>vS x fun l n=>Ap (Nat.ble l 1048576) fun _=>J9 l n [] fun vs=>alloc el vs h fun id h=>Js h id fun h=>k (.l id 0 0 l l (G5 l)) h) N
section
variable {P:Program} {t:F} {h:H} {N:Nx} {o x y l c s:O} {el len size:Nat} {z:List V} {ps:List Pt}
theorem TB:OR P (CB el z) t h N=AL P el z (fun id=>.p id 0 0 z.length) h N:=FM fun cf k=>rfl
theorem cN:OR P (DR el o) t h N=BX P el (oV o t) h N:=FM fun cf k=>by simp only[DR,Aq]
theorem KJ:OR P (Ax el len z ps) t h N=FL P ps t z (some (el,len)) h N:=FM fun cf k=>rfl
theorem Qx:OR P (Ct z ps) t h N=FL P ps t z none h N:=FM fun cf k=>rfl
theorem RP:OR P (Ae size o x) t h N=ST P size (oV o t) (oV x t) h N:=FM fun cf k=>by simp only[Ae,AN,Aq]
theorem LY:OR P (DS el z l c) t h N=MS P el z (oV l t) (oV c t) h N:=FM fun cf k=>by
 have no:∀ u:V,(vI u fun _ n=>A3 n fun _=>false)=false:=uQ
 simp only[DS,AN]
theorem or_append:OR P (Bn el size s x) t h N=AP P el size (oV s t) (oV x t) h N:=FM fun cf k=>by simp only[Bn,Aq]
theorem OE:OR P (FO el s x) t h N=AS P el (oV s t) (oV x t) h N:=FM fun cf k=>by simp only[FO,Aq]
/--the whole of a text,copied into bytes -/
def uO (P:Program) (x y:V) (h:H) (N:Nx):Prop:=HM P (fun k=>vL x (fun _=>false) fun id g off len fin _=>HH len (fun _=>false) fun _=>GZ y h k id g off len fin) N
theorem Rp {P:Program} {x y:O} {t:F} {h:H} {N:Nx}:OR P (GY x y) t h N=uO P (oV x t) (oV y t) h N:=FM fun cf k=>by simp only[GY,Aq]
theorem TX:OR P (Ee size x y) t h N=CP P size (oV x t) (oV y t) h N:=FM fun cf k=>by simp only[Ee,Aq]
theorem Zs:OR P (HZ el x) t h N=SB P el (oV x t) h N:=FM fun cf k=>by simp only[HZ,AN]
theorem uZ:FL P [] t z none h N=N.go P (.a z) h:=propext ⟨fun⟨v,h',e,k⟩=>by obtain⟨rfl,rfl⟩:=S9 e;exact k,fun k=>⟨_,_,fun _=>rfl,k⟩⟩
theorem ud:FL P [] t z (some (el,len)) h N=AL P el z (fun id=>.l id 0 0 len z.length (some len)) h N:=rfl
theorem wR {e:Option (Nat×Nat)} {off size:Nat}:FL P (Pt.mk off size o::ps) t z e h N=FP P off size (oV o t) ps t z e h N:=by
 have e0:∀ k,EJ (⟨off,size,o⟩::ps) t z k=Fs off size (EJ ps) t z k (oV o t):=fun k=>by show oK o t _=_;rw[Aq];rfl
 unfold FL FP
 simp only[e0]
theorem Vk {e:Option (Nat×Nat)} {off size:Nat} {v:V} {cs:List V} (hk:E7 v=true) (hc:cells v=cs) (hs:cs.length=size) (hb:off+size<=z.length):FP P off size v ps t z e h N=FL P ps t (z.take off++(cs++z.drop (off+size))) e h N:=by
 have e0:∀ k,Fs off size (EJ ps) t z k v=EJ ps t (z.take off++(cs++z.drop (off+size))) k:=fun k=>by
  have h1:Nat.beq (cells v).length size=true:=by rw[hc,hs];exact Nat.beq_refl _
  have h2:Nat.ble (Nat.add off size) z.length=true:=by rw[Nat.ble_eq];exact hb
  unfold Fs
  rw[hk,AG,h1,AG,h2,AG,hc]
  unfold putAt
  rw[Dj,Dj,hs]
 unfold FP FL
 simp only[e0]
section
variable {e:Option (Nat×Nat)} {off:Nat}
def VR (P:Program) (off size:Nat) (v:V) (ps:List Pt) (t:F) (cs:List V) (el:Option (Nat×Nat)) (h:H) (N:Nx):Prop:=FP P off size v ps t cs el h N
theorem Kz {size:Nat} {v:V} {cs:List V} (hk:E7 v=true) (hc:cells v=cs) (hs:cs.length=size):FP P off size v ps t z e h N=if off+size<=z.length then FL P ps t (z.take off++(cs++z.drop (off+size))) e h N else VR P off size v ps t z e h N:=by
 split
 ·rename_i hb;exact Vk hk hc hs hb
 ·rfl
theorem ug {kd:IntKind} {a:Int}:FP P off 1 (.i kd a) ps t z e h N=if off+1<=z.length then FL P ps t (z.take off++(.i kd a::z.drop (off+1))) e h N else VR P off 1 (.i kd a) ps t z e h N:=Kz (cs:=[.i kd a]) rfl rfl rfl
theorem uS {q:Bool}:FP P off 1 (.b q) ps t z e h N=if off+1<=z.length then FL P ps t (z.take off++(.b q::z.drop (off+1))) e h N else VR P off 1 (.b q) ps t z e h N:=Kz (cs:=[.b q]) rfl rfl rfl
theorem kY {s:List UInt8}:FP P off 1 (sv s) ps t z e h N=if off+1<=z.length then FL P ps t (z.take off++(sv s::z.drop (off+1))) e h N else VR P off 1 (sv s) ps t z e h N:=Kz (cs:=[sv s]) rfl rfl rfl
theorem vw {id:B} {g o fin:Nat}:FP P off 1 (.p id g o fin) ps t z e h N=if off+1<=z.length then FL P ps t (z.take off++(.p id g o fin::z.drop (off+1))) e h N else VR P off 1 (.p id g o fin) ps t z e h N:=Kz (cs:=[.p id g o fin]) rfl rfl rfl
theorem gJ {id:B} {g o len fin:Nat} {cap:Option Nat}:FP P off 1 (.l id g o len fin cap) ps t z e h N=if off+1<=z.length then FL P ps t (z.take off++(.l id g o len fin cap::z.drop (off+1))) e h N else VR P off 1 (.l id g o len fin cap) ps t z e h N:=Kz (cs:=[.l id g o len fin cap]) rfl rfl rfl
theorem Vo:FP P off 1 .l0 ps t z e h N=if off+1<=z.length then FL P ps t (z.take off++(.l0::z.drop (off+1))) e h N else VR P off 1 .l0 ps t z e h N:=Kz (cs:=[.l0]) rfl rfl rfl
theorem vn {size:Nat} {cs:List V}:FP P off size (.a cs) ps t z e h N=if cs.length=size/\off+size<=z.length then FL P ps t (z.take off++(cs++z.drop (off+size))) e h N else VR P off size (.a cs) ps t z e h N:=by
 split
 ·rename_i hb;exact Vk rfl rfl hb.1 hb.2
 ·rfl
end
theorem u6 {kd:IntKind} {a:Int}:BX P el (.i kd a) h N=AL P el [.i kd a] (fun id=>.p id 0 0 1) h N:=rfl
theorem wQ {q:Bool}:BX P el (.b q) h N=AL P el [.b q] (fun id=>.p id 0 0 1) h N:=rfl
theorem ko {s:List UInt8}:BX P el (sv s) h N=AL P el [sv s] (fun id=>.p id 0 0 1) h N:=rfl
theorem v8 {cs:List V}:BX P el (.a cs) h N=AL P el cs (fun id=>.p id 0 0 cs.length) h N:=rfl
theorem vO {id:B} {g o fin:Nat}:BX P el (.p id g o fin) h N=AL P el [.p id g o fin] (fun id=>.p id 0 0 1) h N:=rfl
theorem vo {id:B} {g o len fin:Nat} {cap:Option Nat}:BX P el (.l id g o len fin cap) h N=AL P el [.l id g o len fin cap] (fun id=>.p id 0 0 1) h N:=rfl
theorem uM:BX P el .l0 h N=AL P el [.l0] (fun id=>.p id 0 0 1) h N:=rfl
theorem vq {kd kd':IntKind} {a b:Int} (h1:0<=a) (h2:a<=b) (h3:b<=1048576):MS P el z (.i kd a) (.i kd' b) h N=AL P el (DX z b.toNat) (fun id=>.l id 0 0 a.toNat (b.toNat*z.length) (some b.toNat)) h N:=by
 have e1:Nat.ble a.toNat b.toNat=true:=by rw[Nat.ble_eq];omega
 have e2:Nat.ble b.toNat 1048576=true:=by rw[Nat.ble_eq];omega
 have e:∀ k:V->H->Bool,(vI (.i kd a) fun _ l=>A3 l fun l=>vI (.i kd' b) fun _ c=>A3 c fun c=>Ap (Nat.ble l c) fun _=>Ap (Nat.ble c 1048576) fun _=>alloc el (DX z c) h fun id h=>k (.l id 0 0 l (Nat.mul c z.length) (some c)) h)=
  alloc el (DX z b.toNat) h fun id h=>k (.l id 0 0 a.toNat (b.toNat*z.length) (some b.toNat)) h:=fun k=>by
  simp only[Cw,Cr h1,Cr (Int.le_trans h1 h2),e1,e2,AG];rfl
 unfold MS AL
 simp only[e]
end
section
variable {P:Program} {h:H} {N:Nx} {id:B} {xs:List V} {j fin:Nat} {x y:V}
/--at one place written -/
theorem ST.own (o:DM h id xs) (hc:cells x=[y]) (h1:FI y=true) (hj:j<fin) (hfit:j<2 ^ 37) (k:∀ h',DM h' id (xs.set j y)->AU (fun i=>i=id) h h'->N.go P (.tu []) h'):ST P 1 (.p id 0 j fin) x h N:=by
 obtain⟨h',a1,a2,a3⟩:=Hy o hj hfit h1
 refine DQ (v:=.tu []) (h':=h') (fun k=>?_) (k h' a2 a3)
 show Ap (Nat.beq (cells x).length 1) (fun _=>store h id 0 j fin (cells x) fun h=>k (.tu []) h)=_
 rw[hc]
 show store h id 0 j fin [y] (fun h=>k (.tu []) h)=_
 rw[a1]
theorem ST.buf {el:Nat} {v:V} (b:Ff h el 1 v xs) (tp:NN h v) (hc:cells x=[y]) (h1:FI y=true) (hj:j<xs.length) (hfit:j<2 ^ 37) (k:∀ h',Ff h' el 1 v (xs.set j y)->NN h' v->AU (Am v) h h'->N.go P (.tu []) h'):ST P 1 (.p (Fb v) (lg v) (Cf v+j) (Cg v)) x h N:=by
 obtain⟨h',a1,a2,a3,a4⟩:=QG b tp hj hfit h1
 refine DQ (v:=.tu []) (h':=h') (fun k=>?_) (k h' a2 a3 a4)
 show Ap (Nat.beq (cells x).length 1) (fun _=>store h _ _ _ _ (cells x) fun h=>k (.tu []) h)=_
 rw[hc]
 show store h _ _ _ _ [y] (fun h=>k (.tu []) h)=_
 rw[a1]
end
section
variable {P:Program} {t:F} {h:H} {K:F->H->Prop} {l:List CO} {N:Nx} {el n m lo:Nat} {s:O} {v y:V} {xs:List V} {id:B}
theorem AP.buf {size ER:Nat} {x:V} {vs:List V} (b:Ff h el size v xs) (hx:∀ k:Nat->List V->Bool,DG size x h k=k ER vs) (hf:B.val h.floor<=B.val h.next) (hsz:1<=size) (hn:vs.length=ER*size) (h1:Bx vs=true) (hb:xs.length+vs.length<=1048576)
 (k:∀ v' h',Ff h' el size v' (xs++vs)->AU (Am v) h h'->(∀ i,Am v' i->Am v i\/B.val h.next<=B.val i)->NN h' v'->N.go P v' h'):AP P el size v x h N:=by
 obtain⟨v',h',a1,a2,a3,a4,a5⟩:=Jp b hf hsz hn h1 hb
 exact DQ (v:=v') (h':=h') (fun k=>by rw[hx,a1]) (k v' h' a2 a3 a4 a5)
theorem Li {size:Nat} {fin ER:Nat} {cap:Option Nat} {vs:List V} (r:Row h id 0 0 vs) (hn:vs.length=ER*size) (hc:1<=ER) (hs:1<=size) (hfin:vs.length<=fin) (k:Nat->List V->Bool):DG size (.l id 0 0 ER fin cap) h k=k ER vs:=by
 obtain⟨c,rfl⟩:∃ c,ER=c+1:=⟨ER-1,by omega⟩
 have hne:vs≠[]:=by
  intro e;subst e
  have:=Nat.mul_le_mul hc hs
  simp at hn;omega
 show Bo h id 0 0 fin (Nat.mul (c+1) size) (fun vs=>k (c+1) vs)=_
 rw[show Nat.mul (c+1) size=vs.length by rw[hn];rfl,C8 r rfl hne (by omega)]
/--append(v,y):its literal,and it -/
theorem AL.push {b:Bool} (a:Vb h lo el v xs) (e3:∀ u,oV s (put m u t)=v) (hc:cells y=[y]) (h1:FI y=true) (hf:B.val h.floor<=B.val h.next) (hlo:lo<=B.val h.next) (hl:xs.length+1<=1048576)
 (k:∀ v' h' u,Vb h' lo el v' (xs++[y])->AU (Am v) h h'->(∀ i,Am v' i->Am v i\/B.val h.next<=B.val i)->NN h' v'->WO P l (put n v' (put m u t)) h' K):
 AL P el [y] (fun id=>.l id 0 0 1 [y].length (some 1)) h (.w m (.mk .none (.some (AR n)) b (.mk (Bn el 1 s (.t (AR m))))::l) t K):=by
 refine AL.own (by show 1<2 ^ 37;decide) hf fun h1' s1 n1 o1=>?_
 rw[eQ,iz,or_append,e3,XU,AB,if_pos rfl]
 refine AP.buf (vs:=[y]) (ER:=1) (a.buf.grow s1) (Li o1.row rfl (Nat.le_refl _) (Nat.le_refl _) (Nat.le_refl _)) (s1.fl hf) (Nat.le_refl _) rfl (by show Bool.rec false true (FI y)=true;rw[h1]) (by show xs.length+1<=_;exact hl) fun v' h' b1 s2 hv tp=>?_
 refine k v' h' _ ⟨b1,fun i hi=>?_⟩ ⟨s2.floor.trans s1.floor,Nat.le_trans s1.next s2.next,fun id' h1' h2=>(s2.get id' (Nat.lt_of_lt_of_le h1' s1.next) h2).trans (s1.get id' h1' fun h=>h)⟩ (fun i hi=>?_) tp
 ·rcases hv i hi with h2|h2
  ·exact a.own i h2
  ·have:=s1.next;omega
 ·rcases hv i hi with h2|h2
  ·exact .inl h2
  ·exact .inr (Nat.le_trans s1.next h2)
/--[]byte(text) -/
theorem SB.mk {c:List UInt8} (hf:B.val h.floor<=B.val h.next) (hl:c.length<=1048576)
 (k:∀ h',AU AQ h h'->B.val h'.next=B.val h.next+1->Gb h' (.l h.next 0 0 c.length c.length (G5 c.length)) (c.map bv)->N.go P (.l h.next 0 0 c.length c.length (G5 c.length)) h'):SB P el (sv c) h N:=by
 obtain⟨h',a1,a2,a3,a4,a5,a6⟩:=OS el hf hl
 have:=fun k=>a1 (.c (sv c)) F.zero (fun _ _ _ _=>false) k rfl
 refine DQ (v:=.l h.next 0 0 c.length c.length (G5 c.length)) (h':=h') (fun k=>?_) (k h' a2 a3 a5)
 have e:=this k
 simp only[HZ,AN]at e
 exact e
end
section
variable {P:Program} {t:F} {h:H} {N:Nx} {x a:O} {id:B} {n K size:Nat} {kd:IntKind} {z:Int}
theorem VB:OR P (B0 size x (some a) none) t h N=H2 P (E3 size) (oV x t) (oV a t) h N:=BZ fun cf k=>Ul ..
theorem VE:OR P (B0 size x none (some a)) t h N=H2 P (FF size) (oV x t) (oV a t) h N:=BZ fun cf k=>Uz ..
def Ig (size:Nat) (v w z:V) (k:V->Bool):Bool:=vL v (fun _=>vI w fun _ n=>A3 n fun a=>vI z fun _ m=>A3 m fun b=>Ap (Nat.beq a 0) fun _=>Ap (Nat.beq b 0) fun _=>k .l0) fun id g off len fin cap=>vI w fun _ n=>A3 n fun a=>vI z fun _ m=>A3 m fun b=>Ap (Nat.ble a b) fun _=>
 Option.rec (fun id g off len fin a b k=>DB size id g off len fin a b fun v=>k v) (fun c id g off len fin a b k=>A1 (BP c) (fun _=>Ap (Nat.beq b 0) fun _=>k (.l id g off 0 off (some c))) (fun _=>BU size id g off len fin c a b fun v=>k v)) cap id g off len fin a b k
theorem VO {cf:Bk} {k:V->H->Bool} (size:Nat) (b:O):B0 size x (some a) (some b) cf t h k=Ig size (oV x t) (oV a t) (oV b t) fun v=>k v h:=by
 unfold Ig
 simp only[B0,AN,BV]
 congr 1
 funext id g off len fin cap
 congr 1;funext _ n;congr 1;funext a;congr 1;funext _ m;congr 1;funext b;congr 1;funext _
 cases cap with
 |none=>rfl
 |some c=>
  show A1 (BP c) _ _=A1 (BP c) _ _
  cases BP c<;>rfl
theorem Up (b:O):OR P (B0 size x (some a) (some b)) t h N=H3 P (Ig size) (oV x t) (oV a t) (oV b t) h N:=BZ fun cf k=>VO ..
theorem M5 {g off fin:Nat} (hK:n<18446744073709551616) (h0:0<=z) (hn:z<n):H2 P (Kn n size) (.p id g off fin) (.i kd z) h N=N.go P (.l id g (off+z.toNat*size) (n-z.toNat) fin (some (n-z.toNat))) h:=Ai fun k=>by
 show A3 z (fun p=>Ap (Nat.ble p n) fun _=>BU size id g off n fin n p n k)=_
 rw[Cr h0,sR (by omega),D2 hK (Nat.le_refl _) (by omega)]
theorem UR (hKM:K<18446744073709551616) (h0:0<=z) (hn:z<=K):H2 P (E3 1) (.l id 0 0 K K (some K)) (.i kd z) h N=N.go P (QZ id K z.toNat) h:=Ai fun k=>by
 obtain⟨n,rfl⟩:=Int.eq_ofNat_of_zero_le h0
 exact Qe hKM (by omega) k
theorem UT (hKM:K<18446744073709551616) (h0:0<=z) (hn:z<=K) (hK:0<K):H2 P (FF 1) (.l id 0 0 K K (some K)) (.i kd z) h N=N.go P (.l id 0 0 z.toNat K (some K)) h:=Ai fun k=>by
 obtain⟨n,rfl⟩:=Int.eq_ofNat_of_zero_le h0
 exact SG hKM (by omega) hK k
end
def CL (P:Program) (f:FuncId) (vs:List V) (h:H) (N:Nx):Prop:=∃ Q,BO P f vs h Q/\∀ v h',Q v h'->N.go P v h'
theorem CL.mk {P:Program} {f:FuncId} {vs:List V} {h:H} {N:Nx} {Q:V->H->Prop} (a:BO P f vs h Q) (k:∀ v h',Q v h'->N.go P v h'):CL P f vs h N:=⟨Q,a,k⟩
/--.. that leaves memory alone -/
theorem CL.pure {P:Program} {f:FuncId} {vs:List V} {h:H} {N:Nx} {e:V} (a:BO P f vs h fun y h'=>y=e/\h'=h) (k:N.go P e h):CL P f vs h N:=⟨_,a,fun v h' hq=>by rw[hq.1,hq.2];exact k⟩
/--.. that makes blocks of its own alone -/
theorem CL.stay {P:Program} {f:FuncId} {vs:List V} {h:H} {N:Nx} {e:V} (a:BO P f vs h fun y h'=>y=e/\AU AQ h h') (k:∀ h',AU AQ h h'->N.go P e h'):CL P f vs h N:=⟨_,a,fun v h' hq=>by rw[hq.1];exact k h' hq.2⟩
theorem Um {P:Program} {t:F} {h:H} {N:Nx} {f:FuncId} {args:List O}:OR P (AY f args) t h N=CL P f (args.map fun o=>oV o t) h N:=by
 apply propext;constructor
 ·rintro⟨v,h',⟨cf,c1,c2⟩,k⟩
  have c3:∀ k,cf f (args.map fun o=>oV o t) h k=k v h':=fun k=>by rw[<-c2 k];show _=Co args t (fun vs=>cf f vs h k);rw[Dt]
  obtain⟨v',h'',e,r1,r2,r3⟩:=c1 f _ h (fun _ _=>true) (c3 _)
  obtain⟨rfl,rfl⟩:=S9 fun k=>(c3 k).symm.trans (e k)
  refine⟨fun v h=>v=v'/\h=h'',⟨v',h'',⟨r1,r2,r3⟩,rfl,rfl⟩,?_⟩
  rintro _ _ ⟨rfl,rfl⟩
  exact k
 ·rintro⟨Q,a,k⟩
  obtain⟨v,h',c1,c2⟩:=Hn (S:=fun _ _ _ v h'=>Q v h') a
  exact⟨v,h',⟨_,Jh P _,fun k=>by show Co args t _=_;rw[Dt,c1]⟩,k v h' c2⟩
theorem eN {P:Program} {t:F} {h:H} {N:Nx} {f:FuncId} {cap:List O}:OR P (OX f cap) t h N=N.go P (.f f (cap.map fun o=>oV o t)) h:=(BZ (g:=fun k=>k (.f f (cap.map fun o=>oV o t))) fun cf k=>by show Co cap t _=_;rw[Dt]).trans (Ai fun _=>rfl)
/--a call of a function value -/
def wS (P:Program) (x:V) (vs:List V) (h:H) (N:Nx):Prop:=∃ f cs,x=.f f cs/\CL P f (vs++cs) h N
theorem dU {P:Program} {f:FuncId} {cs vs:List V} {h:H} {N:Nx}:wS P (.f f cs) vs h N=CL P f (vs++cs) h N:=propext ⟨fun⟨_,_,e,a⟩=>by cases e;exact a,fun a=>⟨_,_,rfl,a⟩⟩
theorem Q8 {P:Program} {t:F} {h:H} {N:Nx} {x:O} {args:List O}:OR P (Bc x args) t h N=wS P (oV x t) (args.map fun o=>oV o t) h N:=by
 have key:∀ f cs,oV x t=.f f cs->OR P (Bc x args) t h N=CL P f ((args.map fun o=>oV o t)++cs) h N:=fun f cs hx=>by
  have e:∀ cf k,Bc x args cf t h k=cf f ((args.map fun o=>oV o t)++cs) h k:=fun cf k=>by show oE x t _=_;rw[AN];show Co args t _=_;rw[Dt,hx,lv,L5]
  apply propext;constructor
  ·rintro⟨v,h',⟨cf,c1,c2⟩,k⟩
   have c3:∀ k,cf f ((args.map fun o=>oV o t)++cs) h k=k v h':=fun k=>(e cf k).symm.trans (c2 k)
   obtain⟨v',h'',e,r1,r2,r3⟩:=c1 f _ h (fun _ _=>true) (c3 _)
   obtain⟨rfl,rfl⟩:=S9 fun k=>(c3 k).symm.trans (e k)
   refine⟨fun v h=>v=v'/\h=h'',⟨v',h'',⟨r1,r2,r3⟩,rfl,rfl⟩,?_⟩
   rintro _ _ ⟨rfl,rfl⟩
   exact k
  ·rintro⟨Q,a,k⟩
   obtain⟨v,h',c1,c2⟩:=Hn (S:=fun _ _ _ v h'=>Q v h') a
   exact⟨v,h',⟨_,Jh P _,fun k=>(e _ k).trans (c1 k)⟩,k v h' c2⟩
 apply propext;constructor
 ·intro a
  have a':=a
  obtain⟨v,h',⟨cf,c1,c2⟩,k⟩:=a'
  have:=c2 fun _ _=>true
  have h2:(oE x t fun y=>Co args t fun vs=>vF y fun f cs=>cf f (app vs cs) h fun _ _=>true)=true:=this
  rw[AN]at h2
  have h2:(Co args t fun vs=>vF (oV x t) fun f cs=>cf f (app vs cs) h fun _ _=>true)=true:=h2
  rw[Dt]at h2
  obtain⟨f,cs,hx,_⟩:=Vl h2
  exact⟨f,cs,hx,by rw[<-key f cs hx];exact a⟩
 ·rintro⟨f,cs,hx,a⟩
  rw[key f cs hx];exact a
def CD (v:V) (A B:Prop):Prop:=∃ q,v=.b q/\(q=true->A)/\(q=false->B)
theorem Ok.cd {P:Program} {nt:Nat} {o:O} {a b:CC} {t:F} {h:H} {K:X->F->H->Prop} (c:CD (oV o t) (Ok P nt a t h K) (Ok P nt b t h K)):Ok P nt (.cond o a b) t h K:=by
 obtain⟨q,hq,ha,hb⟩:=c
 exact Ok.cond hq ha hb
theorem wL {A B:Prop}:CD (.b true) A B=A:=propext ⟨fun⟨q,hq,ha,_⟩=>by cases hq;exact ha rfl,fun a=>⟨true,rfl,fun _=>a,fun h=>by cases h⟩⟩
theorem uT {A B:Prop}:CD (.b false) A B=B:=propext ⟨fun⟨q,hq,_,hb⟩=>by cases hq;exact hb rfl,fun b=>⟨false,rfl,fun h=>(by cases h),fun _=>b⟩⟩
theorem AD {q:Bool} {A B:Prop} (a:q=true->A) (b:q=false->B):CD (.b q) A B:=⟨q,rfl,a,b⟩
/--behind the first part:b,then K -/
def Sq (P:Program) (nt:Nat) (b:CC) (K:X->F->H->Prop):X->F->H->Prop
 |.normal,t,h=>Ok P nt b t h K
 |x,t,h=>K x t h
/--the next round -/
def Zg (Inv:Nat->F->H->Prop) (m:Nat) (t:F) (h:H):Prop:=∃ m',m'<m/\Inv m' t h
def uR (Inv:Nat->F->H->Prop) (m:Nat) (K:X->F->H->Prop):X->F->H->Prop
 |.normal,t,h=>Zg Inv m t h
 |x,t,h=>K x t h
section
variable {P:Program} {nt:Nat} {a b:CC} {t:F} {h:H} {K:X->F->H->Prop} {Inv:Nat->F->H->Prop} {m j id:Nat}
theorem Ok.sq (k:Ok P nt a t h (Sq P nt b K)):Ok P nt (.seq a b) t h K:=Ok.seq (k.mono fun x t h=>by cases x<;>exact fun h=>h)
theorem ur:Sq P nt b K .normal t h=Ok P nt b t h K:=rfl
theorem ui:Sq P nt b K (.exit j) t h=K (.exit j) t h:=rfl
theorem vN:Sq P nt b K .ret t h=K .ret t h:=rfl
theorem wD:uR Inv m K .normal t h=Zg Inv m t h:=rfl
theorem uU:uR Inv m K (.exit j) t h=K (.exit j) t h:=rfl
theorem vU:uR Inv m K .ret t h=K .ret t h:=rfl
def wX (I Inv:Nat->F->H->Prop):Prop:=I=Inv
/--a loop:the invariant,with a measure that falls -/
theorem Ok.lp (Inv:Nat->F->H->Prop) (m:Nat) (i:Inv m t h) (round:∀ I:Nat->F->H->Prop,wX I Inv->∀ m t h,Inv m t h->Ok P nt a t h (uR I m K)):Ok P nt (.loop a) t h K:=
 Ok.loop Inv (fun m t h hi=>(round Inv rfl m t h hi).mono fun x t h=>by cases x<;>exact fun h=>h) m t h i
theorem Aw {I:Nat->F->H->Prop} (e:wX I Inv) (m':Nat) (hm:m'<m) (k:Inv m' t h):Zg I m t h:=by have e':I=Inv:=e;subst e';exact⟨m',hm,k⟩
end
def PU (rs:List Rs) (Q:V->H->Prop):X->F->H->Prop:=fun x t' h'=>match x with
 |.exit _=>False
 |_=>∃ us,(∀ k:List V->Bool,E5 rs t' h' k=k us)/\Q (one us) h'
theorem BK {P:Program} {f:FuncId} {nt:Nat} {cc:CC} {rs:List Rs} {vs:List V} {h:H} {Q:V->H->Prop} (hc:AV P f=⟨nt,cc,rs⟩) (hbad:cc≠.bad) (hl1:vs.length<=nt) (hl2:vs.length<=512)
 (ok:∀ Q',Q'=Q->Ok P nt cc (Av vs 0 F.zero) h (PU rs Q')):BO P f vs h Q:=bO hc hbad hl1 hl2 (ok Q rfl)
section
variable {Q:V->H->Prop} {t:F} {h:H} {n m p q:Nat}
theorem Jg {rs:List Rs} {us:List V} (e:∀ k:List V->Bool,E5 rs t h k=k us):PU rs Q .ret t h=Q (one us) h:=
 propext ⟨fun⟨vs,e',k⟩=>by have:=bX fun k=>(e k).symm.trans (e' k);subst this;exact k,fun k=>⟨us,e,k⟩⟩
theorem qw {rs:List Rs}:PU rs Q .normal t h=PU rs Q .ret t h:=rfl
theorem ql:PU [] Q .ret t h=Q (.tu []) h:=Jg (us:=[]) fun k=>rfl
theorem tH:PU [Rs.tmp (AR n)] Q .ret t h=Q (get n t) h:=Jg (us:=[_]) fun k=>nZ ..
theorem n7:PU [Rs.tmp (AR n),Rs.tmp (AR m)] Q .ret t h=Q (.tu [get n t,get m t]) h:=Jg (us:=[_,_]) fun k=>jW ..
theorem gG:PU [Rs.tmp (AR n),Rs.tmp (AR m),Rs.tmp (AR p)] Q .ret t h=Q (.tu [get n t,get m t,get p t]) h:=Jg (us:=[_,_,_]) fun k=>jL ..
theorem nr:PU [Rs.tmp (AR n),Rs.tmp (AR m),Rs.tmp (AR p),Rs.tmp (AR q)] Q .ret t h=Q (.tu [get n t,get m t,get p t,get q t]) h:=Jg (us:=[_,_,_,_]) fun k=>by
 show Bf (Bi (AR n) t) (fun v=>Bf (Bi (AR m) t) fun u=>Bf (Bi (AR p) t) fun w=>Bf (Bi (AR q) t) fun z=>k [v,u,w,z])=_
 rw[BE,BE,BE,BE];rfl
end
/--results,the first out of a box -/
def RA (Q:V->H->Prop) (size:Nat) (v:V) (us:List V) (h:H):Prop:=∃ vs,(∀ k:List V->Bool,(vP v fun id g off fin=>Bo h id g off fin size k)=k vs)/\Q (one (.a vs::us)) h
section
variable {Q:V->H->Prop} {t:F} {h:H} {n m p q size:Nat}
theorem RM {rs:List Rs} {us:List V} (e:∀ (k:List V->Bool),(jP (Rs.KT (AR n) size) t h fun w=>E5 rs t h fun vs=>k (w::vs))=vP (get n t) fun id g off fin=>Bo h id g off fin size fun vs=>k (.a vs::us)):PU (Rs.KT (AR n) size::rs) Q .ret t h=RA Q size (get n t) us h:=by
 refine propext ⟨fun⟨ws,e',k⟩=>?_,fun⟨vs,e',k⟩=>⟨.a vs::us,fun k=>?_,k⟩⟩
 ·have e2:=fun k=>(e k).symm.trans (e' k)
  have e3:=e2 (fun zs=>true)
  obtain⟨id,g,off,fin,hp⟩:∃ id g off fin,get n t=.p id g off fin:=by
   revert e3
   cases get n t<;>intro e3<;>first|exact⟨_,_,_,_,rfl⟩|exact Bool.noConfusion e3
  rw[hp]at e2⊢
  have e4:∀ k:List V->Bool,Bo h id g off fin size (fun vs=>k (.a vs::us))=k ws:=e2
  obtain⟨vs,hv,_⟩:=EB (h:=h) (id:=id) (g:=g) (off:=off) (fin:=fin) (n:=size) (k:=fun _=>true) (e4 fun _=>true)
  have:ws=.a vs::us:=bX fun k=>by rw[<-e4 k,hv]
  subst this
  exact⟨vs,hv,k⟩
 ·have:=e' fun vs=>k (.a vs::us)
  rw[<-this];exact e k
theorem WI:PU [Rs.KT (AR n) size] Q .ret t h=RA Q size (get n t) [] h:=RM fun k=>rfl
theorem ZV:PU [Rs.KT (AR n) size,Rs.tmp (AR m)] Q .ret t h=RA Q size (get n t) [get m t] h:=RM fun k=>by
 show(vP (get n t) fun id g off fin=>Bo h id g off fin size fun vs=>Bf (get m t) fun v=>k [.a vs,v])=_
 simp only[BE]
theorem Wh:PU [Rs.KT (AR n) size,Rs.tmp (AR m),Rs.tmp (AR p)] Q .ret t h=RA Q size (get n t) [get m t,get p t] h:=RM fun k=>by
 show(vP (get n t) fun id g off fin=>Bo h id g off fin size fun vs=>Bf (get m t) fun v=>Bf (get p t) fun u=>k [.a vs,v,u])=_
 simp only[BE]
theorem DM.ra {id:B} {xs us:List V} {fin:Nat} (o:DM h id xs) (hs:xs.length=size) (h1:1<=size) (hf:size<=fin):RA Q size (.p id 0 0 fin) us h=Q (one (.a xs::us)) h:=by
 have e:∀ k:List V->Bool,Bo h id 0 0 fin size k=k xs:=fun k=>C8 o.row hs (by intro e;subst e;simp at hs;omega) (by omega) k
 refine propext ⟨fun⟨vs,e',k⟩=>?_,fun k=>⟨xs,e,k⟩⟩
 have:vs=xs:=bX fun k=>(e k).symm.trans (e' k)
 subst this;exact k
end
theorem rC:one []=.tu []:=rfl
theorem wrap_u8 {n:Int} (h1:0<=n) (h2:n<=255):IntKind.u8.wrap n=n:=by
 simp only[IntKind.wrap,IntKind.bits,IntKind.signed];simp;omega
theorem wrap_u16 {n:Int} (h1:0<=n) (h2:n<=65535):IntKind.u16.wrap n=n:=by
 simp only[IntKind.wrap,IntKind.bits,IntKind.signed];simp;omega
theorem wrap_u32 {n:Int} (h1:0<=n) (h2:n<=4294967295):IntKind.u32.wrap n=n:=by
 simp only[IntKind.wrap,IntKind.bits,IntKind.signed];simp;omega
theorem wrap_u64 {n:Int} (h1:0<=n) (h2:n<=18446744073709551615):IntKind.u64.wrap n=n:=by
 simp only[IntKind.wrap,IntKind.bits,IntKind.signed];simp;omega
theorem wrap_i32 {n:Int} (h1: -2147483648<=n) (h2:n<=2147483647):IntKind.i32.wrap n=n:=by
 simp only[IntKind.wrap,IntKind.bits,IntKind.signed];simp;omega
theorem QB (c:UInt8):IntKind.i64.wrap (c.toNat:Int)=(c.toNat:Int):=wrap_i64 (by omega) (by have:=c.toNat_lt;omega)
theorem SJ (c:UInt8):IntKind.u8.wrap (c.toNat:Int)=(c.toNat:Int):=wrap_u8 (by omega) (by have:=c.toNat_lt;omega)
theorem Pp (c:UInt8):IntKind.u16.wrap (c.toNat:Int)=(c.toNat:Int):=wrap_u16 (by omega) (by have:=c.toNat_lt;omega)
theorem P6 (c:UInt8):IntKind.u32.wrap (c.toNat:Int)=(c.toNat:Int):=wrap_u32 (by omega) (by have:=c.toNat_lt;omega)
theorem PQ (c:UInt8):IntKind.u64.wrap (c.toNat:Int)=(c.toNat:Int):=wrap_u64 (by omega) (by have:=c.toNat_lt;omega)
theorem Rc:IntKind.bits .i64=64:=rfl
theorem RG:IntKind.bits .u64=64:=rfl
theorem TD:IntKind.bits .u32=32:=rfl
theorem R8:IntKind.bits .u16=16:=rfl
theorem Ut:IntKind.bits .u8=8:=rfl
theorem Q0:IntKind.bits .i32=32:=rfl
end Go.Ev
set_option maxRecDepth 10000
namespace Go.Ev
open Go
section
variable {P:Program} {h:H} {N:Nx} {a b:Int}
theorem OL (ha:0<=a) (ha2:a<=9223372036854775807) (hb:0<=b) (hb2:b<=9223372036854775807):H2 P (C1 NF) (.i .i64 a) (.i .i64 b) h N=N.go P (.i .i64 ((a.toNat&&&b.toNat:Nat):Int)) h:=Jd (m:=9223372036854775807) rfl ha ha2 hb hb2
theorem QD (ha:0<=a) (ha2:a<=255) (hb:0<=b) (hb2:b<=255):H2 P (C1 NF) (.i .u8 a) (.i .u8 b) h N=N.go P (.i .u8 ((a.toNat&&&b.toNat:Nat):Int)) h:=Jd (m:=255) rfl ha ha2 hb hb2
theorem Ns (ha:0<=a) (ha2:a<=65535) (hb:0<=b) (hb2:b<=65535):H2 P (C1 NF) (.i .u16 a) (.i .u16 b) h N=N.go P (.i .u16 ((a.toNat&&&b.toNat:Nat):Int)) h:=Jd (m:=65535) rfl ha ha2 hb hb2
theorem N4 (ha:0<=a) (ha2:a<=4294967295) (hb:0<=b) (hb2:b<=4294967295):H2 P (C1 NF) (.i .u32 a) (.i .u32 b) h N=N.go P (.i .u32 ((a.toNat&&&b.toNat:Nat):Int)) h:=Jd (m:=4294967295) rfl ha ha2 hb hb2
theorem OJ (ha:0<=a) (ha2:a<=18446744073709551615) (hb:0<=b) (hb2:b<=18446744073709551615):H2 P (C1 NF) (.i .u64 a) (.i .u64 b) h N=N.go P (.i .u64 ((a.toNat&&&b.toNat:Nat):Int)) h:=Jd (m:=18446744073709551615) rfl ha ha2 hb hb2
theorem QQ (ha:0<=a) (ha2:a<=9223372036854775807) (hb:0<=b) (hb2:b<=9223372036854775807):H2 P (C1 YP) (.i .i64 a) (.i .i64 b) h N=N.go P (.i .i64 ((a.toNat|||b.toNat:Nat):Int)) h:=M9 (m:=9223372036854775807) rfl ha ha2 hb hb2
theorem Rg (ha:0<=a) (ha2:a<=255) (hb:0<=b) (hb2:b<=255):H2 P (C1 YP) (.i .u8 a) (.i .u8 b) h N=N.go P (.i .u8 ((a.toNat|||b.toNat:Nat):Int)) h:=M9 (m:=255) rfl ha ha2 hb hb2
theorem P4 (ha:0<=a) (ha2:a<=65535) (hb:0<=b) (hb2:b<=65535):H2 P (C1 YP) (.i .u16 a) (.i .u16 b) h N=N.go P (.i .u16 ((a.toNat|||b.toNat:Nat):Int)) h:=M9 (m:=65535) rfl ha ha2 hb hb2
theorem QH (ha:0<=a) (ha2:a<=4294967295) (hb:0<=b) (hb2:b<=4294967295):H2 P (C1 YP) (.i .u32 a) (.i .u32 b) h N=N.go P (.i .u32 ((a.toNat|||b.toNat:Nat):Int)) h:=M9 (m:=4294967295) rfl ha ha2 hb hb2
theorem PG (ha:0<=a) (ha2:a<=18446744073709551615) (hb:0<=b) (hb2:b<=18446744073709551615):H2 P (C1 YP) (.i .u64 a) (.i .u64 b) h N=N.go P (.i .u64 ((a.toNat|||b.toNat:Nat):Int)) h:=M9 (m:=18446744073709551615) rfl ha ha2 hb hb2
theorem OA (ha:0<=a) (ha2:a<=9223372036854775807) (hb:0<=b) (hb2:b<=9223372036854775807):H2 P (C1 KH) (.i .i64 a) (.i .i64 b) h N=N.go P (.i .i64 ((a.toNat ^^^ b.toNat:Nat):Int)) h:=J5 (m:=9223372036854775807) rfl ha ha2 hb hb2
theorem QL (ha:0<=a) (ha2:a<=255) (hb:0<=b) (hb2:b<=255):H2 P (C1 KH) (.i .u8 a) (.i .u8 b) h N=N.go P (.i .u8 ((a.toNat ^^^ b.toNat:Nat):Int)) h:=J5 (m:=255) rfl ha ha2 hb hb2
theorem Nt (ha:0<=a) (ha2:a<=65535) (hb:0<=b) (hb2:b<=65535):H2 P (C1 KH) (.i .u16 a) (.i .u16 b) h N=N.go P (.i .u16 ((a.toNat ^^^ b.toNat:Nat):Int)) h:=J5 (m:=65535) rfl ha ha2 hb hb2
theorem OG (ha:0<=a) (ha2:a<=4294967295) (hb:0<=b) (hb2:b<=4294967295):H2 P (C1 KH) (.i .u32 a) (.i .u32 b) h N=N.go P (.i .u32 ((a.toNat ^^^ b.toNat:Nat):Int)) h:=J5 (m:=4294967295) rfl ha ha2 hb hb2
theorem Nd (ha:0<=a) (ha2:a<=18446744073709551615) (hb:0<=b) (hb2:b<=18446744073709551615):H2 P (C1 KH) (.i .u64 a) (.i .u64 b) h N=N.go P (.i .u64 ((a.toNat ^^^ b.toNat:Nat):Int)) h:=J5 (m:=18446744073709551615) rfl ha ha2 hb hb2
theorem OI (ha:0<=a) (ha2:a<=9223372036854775807) (hb:0<=b) (hb2:b<=9223372036854775807):H2 P (C1 NR) (.i .i64 a) (.i .i64 b) h N=N.go P (.i .i64 ((a.toNat ^^^ (a.toNat&&&b.toNat):Nat):Int)) h:=JG (m:=9223372036854775807) rfl ha ha2 hb hb2
theorem P1 (ha:0<=a) (ha2:a<=255) (hb:0<=b) (hb2:b<=255):H2 P (C1 NR) (.i .u8 a) (.i .u8 b) h N=N.go P (.i .u8 ((a.toNat ^^^ (a.toNat&&&b.toNat):Nat):Int)) h:=JG (m:=255) rfl ha ha2 hb hb2
theorem OH (ha:0<=a) (ha2:a<=65535) (hb:0<=b) (hb2:b<=65535):H2 P (C1 NR) (.i .u16 a) (.i .u16 b) h N=N.go P (.i .u16 ((a.toNat ^^^ (a.toNat&&&b.toNat):Nat):Int)) h:=JG (m:=65535) rfl ha ha2 hb hb2
theorem NP (ha:0<=a) (ha2:a<=4294967295) (hb:0<=b) (hb2:b<=4294967295):H2 P (C1 NR) (.i .u32 a) (.i .u32 b) h N=N.go P (.i .u32 ((a.toNat ^^^ (a.toNat&&&b.toNat):Nat):Int)) h:=JG (m:=4294967295) rfl ha ha2 hb hb2
theorem OD (ha:0<=a) (ha2:a<=18446744073709551615) (hb:0<=b) (hb2:b<=18446744073709551615):H2 P (C1 NR) (.i .u64 a) (.i .u64 b) h N=N.go P (.i .u64 ((a.toNat ^^^ (a.toNat&&&b.toNat):Nat):Int)) h:=JG (m:=18446744073709551615) rfl ha ha2 hb hb2
end
theorem Ud (x y:V):cond true x y=x:=rfl
theorem Uh (x y:V):cond false x y=y:=rfl
theorem aF (f:O->V) (o:O) (os:List O):List.map f (o::os)=f o::List.map f os:=rfl
theorem aY (f:O->V):List.map f []=[]:=rfl
theorem cZ (a:V) (l:List V):(a::l).length=l.length+1:=rfl
theorem cL:([]:List V).length=0:=rfl
theorem Uj (l:List V):l.take 0=[]:=rfl
theorem Tp (n:Nat) (a:V) (l:List V):(a::l).take (n+1)=a::l.take n:=rfl
theorem UL (l:List V):l.drop 0=l:=rfl
theorem Uq (n:Nat) (a:V) (l:List V):(a::l).drop (n+1)=l.drop n:=rfl
theorem cV (l:List V):[]++l=l:=rfl
theorem YX (a:V) (l m:List V):(a::l)++m=a::(l++m):=rfl
theorem VX (a:V) (l:List V) (d:V):(a::l).getD 0 d=a:=rfl
theorem UK (n:Nat) (a:V) (l:List V) (d:V):(a::l).getD (n+1) d=l.getD n d:=by simp[List.getD]
theorem cK (a b:V) (l:List V):(a::l).set 0 b=b::l:=rfl
theorem Y0 (n:Nat) (a b:V) (l:List V):(a::l).set (n+1) b=a::l.set n b:=rfl
theorem XY (b:Bool):(b==b)=true:=by cases b<;>rfl
theorem ax (b:Bool):(b !=b)=false:=by cases b<;>rfl
def AI:=And.intro @jN (And.intro @ir (And.intro @rZ (And.intro @pR (And.intro @ja (And.intro @NQ (And.intro @dR (And.intro @iz (And.intro @vH (And.intro @vm (And.intro @jr (And.intro @ua (And.intro @wE (And.intro @vf (And.intro @wN (And.intro @iY (And.intro @pC (And.intro @eQ (And.intro @Vh (And.intro @Vd (And.intro @nF (And.intro @Ry (And.intro @qv (And.intro @ff (And.intro @jQ (And.intro @nE (And.intro @mI (And.intro @lS (And.intro @Dr (And.intro @Ti (And.intro @Tx (And.intro @Ww (And.intro @SN (And.intro @bL (And.intro @TY (And.intro @Xu (And.intro @fF (And.intro @Tv (And.intro @aX (And.intro @T4 (And.intro @bF (And.intro @eZ (And.intro @dA (And.intro @WH (And.intro @Rb (And.intro @QI (And.intro @LJ (And.intro @Mv (And.intro @Yp (And.intro @PN (And.intro @PK (And.intro @P2 (And.intro @Pu (And.intro @UB (And.intro @UN (And.intro @fG (And.intro @Yv (And.intro @ZC (And.intro @Sw (And.intro @or_nil (And.intro @Mc (And.intro @VW (And.intro @TG (And.intro @YT (And.intro @Qx (And.intro @Um (And.intro @eN (And.intro @Q8 (And.intro @dU (And.intro @TB (And.intro @cN (And.intro @KJ (And.intro @RP (And.intro @LY (And.intro @or_append (And.intro @OE (And.intro @TX (And.intro @Rp (And.intro @Zs (And.intro @VB (And.intro @VE (And.intro @Up (And.intro @Yk (And.intro @ZW (And.intro @Xe (And.intro @Wk (And.intro @YL (And.intro @WB (And.intro @YN (And.intro @Y6 (And.intro @Xp (And.intro @Z2 (And.intro @bI (And.intro @YY (And.intro @dp (And.intro @Z0 (And.intro @WX (And.intro @au (And.intro @Y9 (And.intro @We (And.intro @aH (And.intro @Uv (And.intro @Tt (And.intro @Uc (And.intro @U9 (And.intro @VV (And.intro @Zb (And.intro @Zm (And.intro @VL (And.intro @Uy (And.intro @UC (And.intro @Qp (And.intro @PW (And.intro @LW (And.intro @NH (And.intro @Zv (And.intro @lQ (And.intro @PJ (And.intro @O7 (And.intro @SW (And.intro @VK (And.intro @KX (And.intro @PH (And.intro @bp (And.intro @WE (And.intro @Uu (And.intro @ZH (And.intro @cQ (And.intro @Z6 (And.intro @dz (And.intro @di (And.intro @bZ (And.intro @df (And.intro @aq (And.intro @RX (And.intro @Se (And.intro @Qw (And.intro @SZ (And.intro @Rj (And.intro @wI (And.intro @wH (And.intro @gK (And.intro @pS (And.intro @ku (And.intro @uZ (And.intro @ud (And.intro @wR (And.intro @ug (And.intro @uS (And.intro @kY (And.intro @vw (And.intro @gJ (And.intro @Vo (And.intro @vn (And.intro @u6 (And.intro @wQ (And.intro @ko (And.intro @v8 (And.intro @vO (And.intro @vo (And.intro @uM (And.intro @vq (And.intro @UR (And.intro @UT (And.intro @M5 (And.intro @bf (And.intro @mf (And.intro @qT (And.intro @oe (And.intro @OL (And.intro @QD (And.intro @Ns (And.intro @N4 (And.intro @OJ (And.intro @QQ (And.intro @Rg (And.intro @P4 (And.intro @QH (And.intro @PG (And.intro @OA (And.intro @QL (And.intro @Nt (And.intro @OG (And.intro @Nd (And.intro @OI (And.intro @P1 (And.intro @OH (And.intro @NP (And.intro @OD (And.intro @wL (And.intro @uT (And.intro @qw (And.intro @ql (And.intro @tH (And.intro @n7 (And.intro @gG (And.intro @nr (And.intro @WI (And.intro @ZV (And.intro @Wh (And.intro @rC (And.intro @pP (And.intro @oB (And.intro @lH (And.intro @ur (And.intro @ui (And.intro @vN (And.intro @wD (And.intro @uU (And.intro @vU (And.intro @kF (And.intro @kZ (And.intro @rj (And.intro @XU (And.intro @vv (And.intro @QB (And.intro @SJ (And.intro @Pp (And.intro @P6 (And.intro @PQ (And.intro @wrap_i64 (And.intro @wrap_u8 (And.intro @wrap_u16 (And.intro @wrap_u32 (And.intro @wrap_u64 (And.intro @wrap_i32 (And.intro @Rc (And.intro @RG (And.intro @TD (And.intro @R8 (And.intro @Ut (And.intro @Q0 (And.intro @cj (And.intro @Sr (And.intro @aF (And.intro @aY (And.intro @Ud (And.intro @Uh (And.intro @Bool.not_true (And.intro @Bool.not_false (And.intro @Bool.not_not (And.intro @decide_true (And.intro @decide_false (And.intro @Int.ofNat_eq_natCast (And.intro @Int.cast_ofNat_Int (And.intro @and_self (And.intro @Int.toNat_natCast (And.intro @XY (And.intro @ax (And.intro @Bool.false_xor (And.intro @Bool.true_xor (And.intro @cZ (And.intro @cL (And.intro @Uj (And.intro @Tp (And.intro @UL (And.intro @Uq (And.intro @cV (And.intro @YX (And.intro @VX (And.intro @UK (And.intro @cK (And.intro @Y0 (And.intro @Nat.min_eq_left (And.intro @Nat.zero_add (And.intro @Nat.add_zero (And.intro @Nat.mul_one (@Nat.zero_mul)))))))))))))))))))))))))))))))))))))))))))))))))))))))))))))))))))))))))))))))))))))))))))))))))))))))))))))))))))))))))))))))))))))))))))))))))))))))))))))))))))))))))))))))))))))))))))))))))))))))))))))))))))))))))))))))))))))))))))))))))))))))))))))))))))))))))))
def Ab:=And.intro @Bool.not_eq_true' (@Bool.not_eq_false')
def AJ:=And.intro @List.length_append.{0} (And.intro @List.length_cons.{0} (And.intro @List.length_nil.{0} (And.intro @List.length_take.{0} (And.intro @List.length_drop.{0} (And.intro @List.length_map.{0,0} (@List.length_set.{0}))))))
def Aa:=And.intro @Int.not_lt (And.intro @Int.not_le (And.intro @Nat.not_lt (And.intro @Nat.not_le (And.intro @decide_eq_true_eq (And.intro @decide_eq_false_iff_not (And.intro @Bool.not_eq_true (And.intro @Bool.not_eq_false (And.intro @Bool.not_true (And.intro @Bool.not_false (And.intro @Bool.not_eq_eq_eq_not (@Decidable.not_not)))))))))))
/--the next step of code,by its form -/
class St (p:Prop) (q:outParam Prop):Prop where
 h:q->p
section
variable {P:Program} {nt:Nat} {t:F} {h:H} {K:X->F->H->Prop} {a b:CC} {l:List CO} {id:Nat} {o:O}
instance:St (Ok P nt (.seq a b) t h K) (Ok P nt a t h (Sq P nt b K)):=⟨Ok.sq⟩
instance:St (Ok P nt (.block id a) t h K) (Ok P nt a t h (Out id K)):=⟨Ok.block⟩
instance:St (Ok P nt (.region l) t h K) (WO P l t h (K .normal)):=⟨Ok.rg⟩
instance:St (Ok P nt (.cond o a b) t h K) (CD (oV o t) (Ok P nt a t h K) (Ok P nt b t h K)):=⟨Ok.cd⟩
instance:St (Ok P nt .skip t h K) (K .normal t h):=⟨Ok.skip⟩
instance:St (Ok P nt (.exit id) t h K) (K (.exit id) t h):=⟨Ok.exit⟩
instance:St (Ok P nt .ret t h K) (K .ret t h):=⟨Ok.ret⟩
end
end Go.Ev
namespace Go.Ev
open Go
/--a block of the call's own,made of a text's bytes or of cells -/
def XL (h:H) (id:B) (xs:List V):Prop:=∃ Ak,h.heap.get id=some Ak/\Ak.cur=0/\Ak.min=0/\Ak.fr<=1/\B.val h.floor<=B.val id/\B.val id<B.val h.next/\∀ i y,xs[i]? =some y->Ak.cells.BL i=some y
theorem XL.row {h:H} {id:B} {xs:List V} (o:XL h id xs):Row h id 0 0 xs:=by
 obtain⟨Ak,h1,h2,h3,h4,h5,h6,h7⟩:=o
 refine⟨fun _=>⟨Ak,h1,by omega⟩,fun i y hy=>?_⟩
 unfold Ev.cell G4
 rw[h1]
 show(if Ak.min<=0 then Ak.cells.BL (0+i)else none)=_
 rw[if_pos (by omega),Nat.zero_add]
 exact h7 i y hy
section
variable {P:Program} {h:H} {N:Nx} {id:B} {xs:List V} {j fin el:Nat} {x y:V}
/--[]byte(text),to be written into -/
theorem SB.own {c:List UInt8} (hf:B.val h.floor<=B.val h.next) (hl:c.length<=1048576)
 (k:∀ h',AU AQ h h'->B.val h'.next=B.val h.next+1->XL h' h.next (c.map bv)->N.go P (.l h.next 0 0 c.length c.length (G5 c.length)) h'):SB P el (sv c) h N:=by
 obtain⟨h',a1,a2,a3,a4,a5,cs,a6,a7⟩:=OS el hf hl
 have:=fun k=>a1 (.c (sv c)) F.zero (fun _ _ _ _=>false) k rfl
 refine DQ (v:=.l h.next 0 0 c.length c.length (G5 c.length)) (h':=h') (fun k=>?_) (k h' a2 a3 ⟨_,a6,rfl,rfl,by show 1<=1;omega,by rw[a2.floor];exact hf,by omega,a7⟩)
 have e:=this k
 simp only[HZ,AN]at e
 exact e
end
/--the i-th row of a matrix -/
def rowOf (h:H) (v:V) (i:Nat):V:=(cell h (Fb v) (lg v) (Cf v+i)).getD .u
/--a matrix that was there when the call began -/
structure MA (h0:H) (v:V) (M:List (List Bool)) (g:H):Prop where
 mx:Mx h0 v M
 st:AU AQ h0 g
section
variable {P:Program} {N:Nx} {h0 g h':H} {v:V} {M:List (List Bool)} {i j:Nat}
theorem MA.grow (a:MA h0 v M g) (s:AU AQ g h'):MA h0 v M h':=⟨a.mx,a.st.trans s⟩
theorem Mx.rowOf (a:Mx h0 v M) (hi:i<M.length):Bl h0 (rowOf h0 v i) (M.getD i []):=by
 obtain⟨rows,r1,r2,r3⟩:=a
 have hr:rows[i]? =some rows[i]:=by simp
 have:Go.Ev.rowOf h0 v i=rows[i]:=by
  unfold Go.Ev.rowOf
  rcases r1 with⟨rfl,e⟩|⟨id,g,off,fin,cap,rfl,h2,h3,h4⟩
  ·subst e;simp at r2;omega
  ·have:=h4.2 i _ hr
   show(cell h0 id g (off+i)).getD .u=_
   rw[this];rfl
 rw[this]
 exact r3 i _ hr
theorem MA.row (a:MA h0 v M g) (hi:i<M.length):Bl g (rowOf h0 v i) (M.getD i []):=(a.mx.rowOf hi).grow a.st
theorem MA.ld (a:MA h0 v M g) (hi:i<M.length):L1 P (Fb v) (lg v) (Cf v+i) (Cg v) g N=N.go P (rowOf h0 v i) g:=by
 obtain⟨rows,r1,r2,r3⟩:=a.mx
 have hr:rows[i]? =some rows[i]:=by simp
 refine Ai fun k=>?_
 have e:Go.Ev.rowOf h0 v i=rows[i]:=by
  unfold Go.Ev.rowOf
  rcases r1 with⟨rfl,e⟩|⟨id,g,off,fin,cap,rfl,h2,h3,h4⟩
  ·subst e;simp at r2;omega
  ·have:=h4.2 i _ hr
   show(cell h0 id g (off+i)).getD .u=_
   rw[this];rfl
 rw[FN (r1.grow a.st) hr,e]
end
theorem Row.ln {P:Program} {h:H} {N:Nx} {id:B} {g off fin size:Nat} {xs:List V} (r:Row h id g 0 xs) (hi:off+size<=xs.length) (h1:1<=size) (hf:off+size<=fin):LN P id g off fin size h N=N.go P (.a ((xs.drop off).take size)) h:=Ai fun k=>by
 have hne:(xs.drop off).take size≠[]:=by
  intro e
  have:=congrArg List.length e
  rw[List.length_take,List.length_drop]at this
  simp at this;omega
 refine C8 (vs:=(xs.drop off).take size) ⟨fun _=>r.1 (by intro e;subst e;simp at hi;omega),fun i y hy=>?_⟩ (by rw[List.length_take,List.length_drop];omega) hne hf _
 rw[List.getElem?_take]at hy
 split at hy
 ·rw[List.getElem?_drop]at hy
  have:=r.2 (off+i) y hy
  rwa [Nat.zero_add]at this
 ·cases hy
def UP (P:Program) (u size:Nat) (x:V) (h:H) (N:Nx):Prop:=HV P (fun k=>vP x fun id g off fin=>Ap (Nat.beq off 0) fun _=>Ap (Nat.ble size fin) fun _=>Vu h id g u fun _=>k (.p id g off fin)) h N
section
variable {P:Program} {t:F} {h:H} {N:Nx} {x y:O} {ne:Bool} {id id':B} {g off fin g' off' fin':Nat} {u size:Nat}
end
section
variable {P:Program} {h:H} {N:Nx} {id:B} {xs:List V} {j fin el:Nat} {x y:V}
/--append(v,text...) -/
theorem AS.buf {v:V} {a c:List UInt8} (hb:Ff h el 1 v (a.map bv)) (hf:B.val h.floor<=B.val h.next) (hl:a.length+c.length<=1048576)
 (k:∀ v' h',Ff h' el 1 v' ((a++c).map bv)->AU (Am v) h h'->(∀ i,Am v' i->Am v i\/B.val h.next<=B.val i)->NN h' v'->N.go P v' h'):AS P el v (sv c) h N:=by
 obtain⟨v',h',a1,a2,a3,a4,a5⟩:=Jp (vs:=c.map bv) (n:=c.length) hb hf (Nat.le_refl _) (by simp) (IJ c) (by simpa using hl)
 refine DQ (v:=v') (h':=h') (fun k=>?_) (k v' h' (by rw[List.map_append];exact a2) a3 a4 a5)
 show J9 c.length (pk c) [] (fun vs=>CS el 1 v c.length vs h k)=_
 rw[Ju _ _ _ _ rfl,List.append_nil,a1]
end
def US (P:Program) (e:Nat) (x y:V) (h:H) (N:Nx):Prop:=HM P (fun k=>vI y fun kd n=>Ap (CA kd .i64) fun _=>A3 n fun n=>R0 x (fun _=>Ap (Nat.beq n 0) fun _=>k (.s 0 0) h) fun id g off fin=>Ka e n h k id g off fin) N
theorem US.of {P:Program} {e:Nat} {x y v:V} {h h':H} {N:Nx} (hk:∀ k:V->H->Bool,(vI y fun kd n=>Ap (CA kd .i64) fun _=>A3 n fun n=>R0 x (fun _=>Ap (Nat.beq n 0) fun _=>k (.s 0 0) h) fun id g off fin=>Ka e n h k id g off fin)=k v h') (k:N.go P v h'):US P e x y h N:=DQ hk k
theorem TS {P:Program} {e:Nat} {x y:O} {t:F} {h:H} {N:Nx}:OR P (HA e x y) t h N=US P e (oV x t) (oV y t) h N:=FM fun cf k=>by simp only[HA,AN]
end Go.Ev
namespace Go.Ev
open Go
section
variable {h:H}
/--all cells of a block at once -/
theorem ST.dF {P:Program} {N:Nx} {id:B} {xs vs:List V} {x:V} {size fin:Nat} (o:DM h id xs) (hc:cells x=vs) (hs:vs.length=size) (h1:Bx vs=true) (hj:vs.length<=fin) (hfit:vs.length<2 ^ 37)
 (k:∀ h',DM h' id vs->AU (fun i=>i=id) h h'->N.go P (.tu []) h'):ST P size (.p id 0 0 fin) x h N:=by
 obtain⟨Ak,a1,a2,a3,a4,a5,a6,a7⟩:=o
 obtain⟨next,floor,heap⟩:=h
 obtain⟨cur,min,sz,cs,bel,fr⟩:=Ak
 simp only at a2 a3 a4 a7
 subst a2;subst a3;subst a4
 obtain⟨tr,t1,t2,t3⟩:=Br vs 0 cs (by omega)
 obtain⟨hp,s1,s2,s3⟩:=Bv id (⟨0,0,sz,tr,bel,0⟩:Gn) heap
 have e1:B.KF floor id=true:=by cases floor<;>first|rfl|(show Nat.ble _ _=true;rw[Nat.ble_eq];exact a5)
 have e2:Nat.ble (Nat.add 0 vs.length) fin=true:=by rw[Nat.ble_eq];show 0+vs.length<=fin;omega
 have e4:HF 0 0=true:=rfl
 have e5:Nat.beq 0 0=true:=rfl
 have e6:Nat.ble 0 0=true:=rfl
 have e7:Nat.beq vs.length size=true:=by rw[hs];simp
 have a1':heap.get id=some ⟨0,0,sz,cs,bel,0⟩:=a1
 refine DQ (v:=.tu []) (h':=⟨next,floor,hp⟩) (fun q=>?_) (k _ ⟨_,s2,rfl,rfl,rfl,a5,a6,fun i z hz=>by have:=t2 i z hz;rwa [Nat.zero_add]at this⟩ ⟨rfl,Nat.le_refl _,fun i _ hi=>s3 i hi⟩)
 show Ap (Nat.beq (cells x).length size) (fun _=>store ⟨next,floor,heap⟩ id 0 0 fin (cells x) fun h=>q (.tu []) h)=_
 rw[hc,e7,AG]
 simp only[store,CI,a1',Al,BD,e5,e6,e1,e2,h1,e4,AG]
 rw[t1,s1]
end
theorem ST.all {P:Program} {h:H} {N:Nx} {id:B} {xs vs:List V} {size fin:Nat} (o:DM h id xs) (hs:vs.length=size) (h1:Bx vs=true) (hj:vs.length<=fin) (hfit:vs.length<2 ^ 37)
 (k:∀ h',DM h' id vs->AU (fun i=>i=id) h h'->N.go P (.tu []) h'):ST P size (.p id 0 0 fin) (.a vs) h N:=ST.dF o rfl hs h1 hj hfit k
theorem gP (h:H):B.val (A4 h).floor<=B.val (A4 h).next:=by cases h;exact Nat.le_refl _
/--a call in a region that A7 -/
theorem CL.rV {P:Program} {f:FuncId} {vs:List V} {h:H} {e:V} {m:Nat} {l:List CO} {t:F} {K:F->H->Prop} (a:BO P f vs (A4 h) fun y h'=>y=e/\AU AQ (A4 h) h')
 (k:∀ h',AU AQ h h'->DO P l (put m e t) h' K):CL P f vs (A4 h) (.u m l t h K):=⟨_,a,fun v h' hq=>by rw[hq.1,Ry];exact k _ hq.2.JC⟩
/--a row of structs of n cells each -/
def Ss {α:Type} (n:Nat) (c:α->List V) (h:H) (v:V) (L:List α):Prop:=
 (v=.l0/\L=[])\/∃ id g off fin cap,v=.l id g off L.length fin cap/\off+L.length*n<=fin/\B.val id<B.val h.next/\Row h id g off (L.flatMap c)
section
variable {α:Type} [Inhabited α] {n:Nat} {c:α->List V}
theorem Cn (hc:∀ e,(c e).length=n):∀ (L:List α),(L.flatMap c).length=L.length*n
 |[]=>by simp
 |a::L=>by rw[List.flatMap_cons,List.length_append,hc,Cn hc L,List.length_cons,Nat.add_mul];omega
theorem Vf (hc:∀ e,(c e).length=n):∀ {L:List α} {i:Nat},i<L.length->((L.flatMap c).drop (i*n)).take n=c (L.getD i default)
 |[],i,h=>by simp at h
 |a::L,0,h=>by
  rw[List.flatMap_cons,Nat.zero_mul,List.drop_zero,List.take_append_of_le_length (by rw[hc];exact Nat.le_refl _),List.take_of_length_le (by rw[hc];exact Nat.le_refl _)];rfl
 |a::L,i+1,h=>by
  have e:(i+1)*n=(c a).length+i*n:=by rw[hc,Nat.add_mul];omega
  rw[List.flatMap_cons,e,<-List.drop_drop,List.drop_left,Vf hc (by simpa using h)]
  simp[List.getD]
theorem KE (hc:∀ e,(c e).length=n) {L:List α} {i d:Nat} (hi:i<L.length) (hd:d<n):(L.flatMap c)[i*n+d]? =some ((c (L.getD i default)).getD d .u):=by
 have e:(((L.flatMap c).drop (i*n)).take n)[d]? =(c (L.getD i default))[d]? :=by rw[Vf hc hi]
 rw[List.getElem?_take,if_pos hd,List.getElem?_drop]at e
 rw[e]
 have:d<(c (L.getD i default)).length:=by rw[hc];exact hd
 have e3:∀ (x:List V),d<x.length->x[d]? =some (x.getD d .u):=fun x hx=>by simp[List.getD,hx]
 exact e3 _ this
theorem Iy (hc:∀ e,(c e).length=n):∀ (L:List α) (k:Nat),(L.take k).flatMap c=(L.flatMap c).take (k*n)
 |[],k=>by simp
 |a::L,0=>by simp
 |a::L,k+1=>by
  have e:(k+1)*n=(c a).length+k*n:=by rw[hc,Nat.add_mul];omega
  have e2:((c a)++L.flatMap c).take ((c a).length+k*n)=c a++(L.flatMap c).take (k*n):=by
   rw[List.take_append,Nat.add_sub_cancel_left,List.take_of_length_le (Nat.le_add_right _ _)]
  rw[List.take_succ_cons,List.flatMap_cons,List.flatMap_cons,Iy hc L k,e,e2]
theorem Ol (hc:∀ e,(c e).length=n):∀ (L:List α) (k:Nat),(L.drop k).flatMap c=(L.flatMap c).drop (k*n)
 |[],k=>by simp
 |a::L,0=>by simp
 |a::L,k+1=>by
  rw[List.drop_succ_cons,List.flatMap_cons,Ol hc L k,show(k+1)*n=(c a).length+k*n by rw[hc,Nat.add_mul];omega,<-List.drop_drop,List.drop_left]
variable {P:Program} {h h' g':H} {N:Nx} {v:V} {L:List α} {i d:Nat}
theorem Ss.ln (a:Ss n c h v L):H1 P Lv v g' N=N.go P (.i .i64 (L.length:Int)) g':=by
 rcases a with⟨rfl,rfl⟩|⟨id,g,off,fin,cap,rfl,_⟩
 ·exact O7
 ·exact SW
theorem Ss.ix (a:Ss n c h v L) (hi:i<L.length):IX P n v i g' N=N.go P (.p (Fb v) (lg v) (Cf v+i*n) (Cg v)) g':=by
 rcases a with⟨rfl,rfl⟩|⟨id,g,off,fin,cap,rfl,_⟩
 ·simp at hi
 ·exact lQ hi
theorem Ss.ld (a:Ss n c h v L) (hc:∀ e,(c e).length=n) (hi:i<L.length) (hd:d<n):L1 P (Fb v) (lg v) (Cf v+i*n+d) (Cg v) h N=N.go P ((c (L.getD i default)).getD d .u) h:=by
 rcases a with⟨rfl,rfl⟩|⟨id,g,off,fin,cap,rfl,hf,hl,r⟩
 ·simp at hi
 ·refine Ai fun k=>?_
  have:=r.2 (i*n+d) _ (KE hc hi hd)
  rw[<-Nat.add_assoc]at this
  have h1:(i+1)*n<=L.length*n:=Nat.mul_le_mul_right n hi
  rw[Nat.add_mul]at h1
  exact HD this (by show off+i*n+d<fin;omega) k
theorem Ss.wU (a:Ss n c h v L) (hc:∀ e,(c e).length=n) (hn:1<=n) (hi:i<L.length):LN P (Fb v) (lg v) (Cf v+i*n) (Cg v) n h N=N.go P (.a (c (L.getD i default))) h:=by
 rcases a with⟨rfl,rfl⟩|⟨id,g,off,fin,cap,rfl,hf,hl,r⟩
 ·simp at hi
 ·refine Ai fun k=>?_
  have h1:(i+1)*n<=L.length*n:=Nat.mul_le_mul_right n hi
  rw[Nat.add_mul]at h1
  have hlen:=hc (L.getD i default)
  refine C8 (vs:=c (L.getD i default)) ⟨fun _=>r.1 ?_,fun j y hy=>?_⟩ hlen (by intro e;rw[e]at hlen;simp at hlen;omega) (by show off+i*n+n<=fin;omega) fun vs=>k (.a vs)
  ·intro e
   have h2:=Cn hc L
   rw[e]at h2
   have h3:L.length*n=0:=h2.symm
   omega
  ·have hj:j<n:=by rw[<-hlen];exact(List.getElem?_eq_some_iff.1 hy).1
   have e:=KE hc hi hj
   rw[List.getD,hy]at e
   have:=r.2 (i*n+j) _ e
   rw[<-Nat.add_assoc]at this
   exact this
theorem Ss.grow (a:Ss n c h v L) (s:AU AQ h h'):Ss n c h' v L:=by
 rcases a with⟨rfl,rfl⟩|⟨id,g,off,fin,cap,rfl,hf,hl,r⟩
 ·exact .inl ⟨rfl,rfl⟩
 ·exact .inr ⟨id,g,off,fin,cap,rfl,hf,Nat.lt_of_lt_of_le hl s.next,r.grow s hl⟩
theorem Ss.stay {p:B->Prop} (a:Ss n c h v L) (s:AU p h h') (hp:∀ id,Am v id->¬p id):Ss n c h' v L:=by
 rcases a with⟨rfl,rfl⟩|⟨id,g,off,fin,cap,rfl,hf,hl,r⟩
 ·exact .inl ⟨rfl,rfl⟩
 ·exact .inr ⟨id,g,off,fin,cap,rfl,hf,Nat.lt_of_lt_of_le hl s.next,r.stay s hl (hp id ⟨_,_,_,_,_,rfl⟩)⟩
theorem Ss.nil:Ss n c h .l0 ([]:List α):=.inl ⟨rfl,rfl⟩
/--of a literal -/
theorem Ss.lit {id:B} {xs:List V} {cap:Option Nat} {len fin:Nat} (o:DM h id xs) (e:xs=L.flatMap c) (hc:∀ e,(c e).length=n) (hl:len=L.length) (hf:L.length*n<=fin):Ss n c h (.l id 0 0 len fin cap) L:=by
 subst hl;subst e
 have r:=o.row
 obtain⟨Ak,h1,h2,h3,h4,h5,h6,h7⟩:=o
 exact .inr ⟨id,0,0,fin,cap,rfl,by omega,h6,r⟩
/--of a row that grew -/
theorem Ss.buf {el:Nat} {xs:List V} (b:Ff h el n v xs) (e:xs=L.flatMap c) (hc:∀ e,(c e).length=n) (hn:1<=n):Ss n c h v L:=by
 subst e
 rcases b with⟨rfl,he⟩|⟨id,g,m,Ak,rfl,h1,h2,h3,h4,h5,h6,h7,h8,h9,h10⟩
 ·refine .inl ⟨rfl,?_⟩
  cases L with
  |nil=>rfl
  |cons a L=>
   have:=Cn hc (a::L)
   rw[he]at this
   have h3:(L.length+1)*n=0:=this.symm
   rw[Nat.add_mul]at h3;omega
 ·have hm:m=L.length:=by
   rw[Cn hc]at h2
   exact(Nat.eq_of_mul_eq_mul_right (by omega) h2).symm
  subst hm
  refine .inr ⟨id,g,0,(L.flatMap c).length,none,rfl,by rw[Cn hc];omega,h4,fun _=>⟨Ak,h5,h6.1⟩,fun i y hy=>?_⟩
  unfold Ev.cell G4
  rw[h5]
  show(if Ak.min<=g then Ak.cells.BL (0+i)else none)=_
  rw[if_pos h6.1,Nat.zero_add]
  exact h10 i y hy
/--a slice whose end is where it should be -/
def V5 (n:Nat) (v:V):Prop:=v=.l0\/∃ id g off m fin cap,v=.l id g off m fin cap/\match cap with
 |some c=>m<=c/\(18446744073709551616<=c->m=0)
 |none=>fin=off+m*n
theorem Q6 {n off k L:Nat}:match GO n k L with
 |some c=>k<=c/\(18446744073709551616<=c->k=0)
 |none=>off+k*n=off+k*n:=by
 cases k with
 |zero=>(cases L with|zero=>exact rfl|succ L=>exact⟨Nat.zero_le _,fun _=>rfl⟩)
 |succ k=>exact rfl
theorem Jj {id:B} {g off k:Nat} (hc:∀ e,(c e).length=n) (r:Row h id g off (L.flatMap c)):Row h id g off ((L.take k).flatMap c):=by
 rw[Iy hc]
 refine⟨fun hne=>r.1 fun e=>hne (by rw[e];simp),fun i y hy=>r.2 i y ?_⟩
 rw[List.getElem?_take]at hy
 split at hy
 ·exact hy
 ·cases hy
theorem N1 {id:B} {g off k:Nat} (hc:∀ e,(c e).length=n) (r:Row h id g off (L.flatMap c)):Row h id g (off+k*n) ((L.drop k).flatMap c):=by
 rw[Ol hc]
 refine⟨fun hne=>r.1 fun e=>hne (by rw[e];simp),fun i y hy=>?_⟩
 rw[List.getElem?_drop]at hy
 have:=r.2 _ y hy
 rwa [<-Nat.add_assoc]at this
theorem Ss.hi {kd:IntKind} {k:Nat} (a:Ss n c h v L) (hc:∀ e,(c e).length=n) (w:V5 n v) (hk:k<=L.length):∃ u,Ss n c h u (L.take k)/\V5 n u/\∀ (g:H) (N:Nx),H2 P (FF n) v (.i kd (k:Int)) g N=N.go P u g:=by
 have e0:Nat.ble 0 k=true:=by rw[Nat.ble_eq];omega
 have hkn:k*n<=L.length*n:=Nat.mul_le_mul_right n hk
 have htk:(L.take k).length=k:=by rw[List.length_take];omega
 rcases a with⟨rfl,rfl⟩|⟨id,g,off,fin,cap,rfl,h2,h3,r⟩
 ·have:k=0:=by simpa using hk
  subst this
  exact⟨.l0,.inl ⟨rfl,by simp⟩,.inl rfl,fun g N=>Ai fun k=>rfl⟩
 rcases w with e|⟨id',g',off',n',fin',cap',e,hw⟩
 ·cases e
 cases e
 cases cap with
 |none=>
  have hw:fin=off+L.length*n:=hw
  refine⟨.l id g off k (off+k*n) (GO n k L.length),.inr ⟨id,g,off,off+k*n,GO n k L.length,by rw[htk],by rw[htk];exact Nat.le_refl _,h3,Jj hc r⟩,.inr ⟨_,_,_,_,_,_,rfl,Q6⟩,fun g0 N=>Ai fun q=>?_⟩
  have e1:Nat.ble k L.length=true:=by rw[Nat.ble_eq];exact hk
  have e2:Nat.beq fin (Nat.add off (Nat.mul L.length n))=true:=by rw[hw];exact Nat.beq_refl _
  unfold FF
  simp only[C0,Cw,Ba,e0,AG]
  show DB n id g off L.length fin 0 k q=_
  unfold DB
  rw[e1,AG,e2,AG,A2,A2,A2]
  show q (.l id g (off+0*n) (k-0) (off+k*n) (GO n k L.length))=_
  simp
 |some cc=>
  have hw2:18446744073709551616<=cc->L.length=0:=hw.2
  have hw:L.length<=cc:=hw.1
  have e1:Nat.ble k cc=true:=by rw[Nat.ble_eq];omega
  cases hfc:BP cc with
  |true=>
   have hcc:=Gp hfc
   have hx:=hw2 hcc
   have hk0:k=0:=by omega
   subst hk0
   refine⟨.l id g off 0 off (some cc),.inr ⟨id,g,off,off,some cc,by simp,by simp,h3,Jj hc r⟩,.inr ⟨_,_,_,_,_,_,rfl,Nat.zero_le _,fun _=>rfl⟩,fun g0 N=>Ai fun q=>?_⟩
   unfold FF
   simp only[C0,Cw,Ba,e0,AG]
   show A1 (BP cc) (fun _=>Ap (Nat.beq 0 0) fun _=>q (.l id g off 0 off (some cc))) _=_
   rw[hfc];rfl
  |false=>
  have hcM:=Gd hfc
  cases cc with
  |zero=>
   have hx:L.length=0:=by omega
   have hk0:k=0:=by omega
   subst hk0
   refine⟨.l id g off 0 fin (some 0),.inr ⟨id,g,off,fin,some 0,by simp,by simp;omega,h3,Jj hc r⟩,.inr ⟨_,_,_,_,_,_,rfl,Nat.le_refl _,fun _=>rfl⟩,fun g0 N=>Ai fun q=>?_⟩
   unfold FF
   simp only[C0,Cw,Ba,e0,AG]
   rfl
  |succ cc=>
   refine⟨.l id g off k fin (some (cc+1)),.inr ⟨id,g,off,fin,some (cc+1),by rw[htk],by rw[htk];omega,h3,Jj hc r⟩,.inr ⟨_,_,_,_,_,_,rfl,by show k<=cc+1;omega,fun h=>absurd hcM (Nat.not_lt.2 h)⟩,fun g0 N=>Ai fun q=>?_⟩
   unfold FF
   simp only[C0,Cw,Ba,e0,AG]
   show A1 (BP (cc+1)) _ (fun _=>BU n id g off L.length fin (cc+1) 0 k fun v=>q v)=_
   rw[hfc,BC,D2 hcM (by omega) (by omega)]
   simp
theorem Ss.LK {kd kd':IntKind} {j k:Nat} (a:Ss n c h v L) (hc:∀ e,(c e).length=n) (w:V5 n v) (hj:j<=k) (hk:k<=L.length):∃ u,Ss n c h u ((L.take k).drop j)/\V5 n u/\∀ (g:H) (N:Nx),H3 P (Ig n) v (.i kd (j:Int)) (.i kd' (k:Int)) g N=N.go P u g:=by
 have e0:Nat.ble j k=true:=by rw[Nat.ble_eq];omega
 have hkn:k*n<=L.length*n:=Nat.mul_le_mul_right n hk
 have hjn:j*n+(k-j)*n=k*n:=by rw[<-Nat.add_mul];congr 1;omega
 have htk:((L.take k).drop j).length=k-j:=by rw[List.length_drop,List.length_take];omega
 rcases a with⟨rfl,rfl⟩|⟨id,g,off,fin,cap,rfl,h2,h3,r⟩
 ·obtain rfl:k=0:=by simpa using hk
  obtain rfl:j=0:=by omega
  exact⟨.l0,.inl ⟨rfl,by simp⟩,.inl rfl,fun g N=>Ai fun k=>rfl⟩
 rcases w with e|⟨id',g',off',n',fin',cap',e,hw⟩
 ·cases e
 cases e
 have hr:=N1 hc (Jj (k:=k) hc r) (k:=j)
 cases cap with
 |none=>
  have hw:fin=off+L.length*n:=hw
  refine⟨.l id g (off+j*n) (k-j) (off+k*n) (GO n k L.length),.inr ⟨id,g,off+j*n,off+k*n,GO n k L.length,by rw[htk],by rw[htk];omega,h3,hr⟩,.inr ⟨_,_,_,_,_,_,rfl,?_⟩,fun g0 N=>Ai fun q=>?_⟩
  ·cases hk0:k with
   |zero=>(cases L.length with|zero=>(show _=_;rw[hk0]at hjn;omega)|succ l=>exact⟨by omega,fun _=>by omega⟩)
   |succ m=>(show _=_;rw[<-hk0];omega)
  have e1:Nat.ble k L.length=true:=by rw[Nat.ble_eq];exact hk
  have e2:Nat.beq fin (Nat.add off (Nat.mul L.length n))=true:=by rw[hw];exact Nat.beq_refl _
  unfold Ig
  simp only[C0,Cw,Ba,e0,AG]
  show DB n id g off L.length fin j k q=_
  unfold DB
  rw[e1,AG,e2,AG,A2,A2,A2]
  rfl
 |some cc=>
  have hw2:18446744073709551616<=cc->L.length=0:=hw.2
  have hw:L.length<=cc:=hw.1
  cases hfc:BP cc with
  |true=>
   have hcc:=Gp hfc
   have hx:=hw2 hcc
   obtain rfl:k=0:=by omega
   obtain rfl:j=0:=by omega
   refine⟨.l id g off 0 off (some cc),.inr ⟨id,g,off,off,some cc,by simp,by simp,h3,?_⟩,.inr ⟨_,_,_,_,_,_,rfl,Nat.zero_le _,fun _=>rfl⟩,fun g0 N=>Ai fun q=>?_⟩
   ·simpa using hr
   unfold Ig
   simp only[C0,Cw,Ba,e0,AG]
   show A1 (BP cc) (fun _=>Ap (Nat.beq 0 0) fun _=>q (.l id g off 0 off (some cc))) _=_
   rw[hfc];rfl
  |false=>
  have hcM:=Gd hfc
  by_cases hjc:j=cc
  ·have hx:k=j:=by omega
   refine⟨.l id g off 0 fin (some 0),.inr ⟨id,g,off,fin,some 0,by rw[htk,hx];simp,by rw[htk,hx];simp;omega,h3,?_⟩,.inr ⟨_,_,_,_,_,_,rfl,Nat.le_refl _,fun _=>rfl⟩,fun g0 N=>Ai fun q=>?_⟩
   ·rw[List.drop_eq_nil_of_le (by rw[List.length_take];omega)]
    exact⟨fun hne=>absurd rfl hne,fun i v hv=>by simp at hv⟩
   ·unfold Ig
    simp only[C0,Cw,Ba,e0,AG]
    show A1 (BP cc) _ (fun _=>BU n id g off L.length fin cc j k fun v=>q v)=_
    rw[hfc,BC]
    have eM:Nat.ble (Nat.succ cc) 18446744073709551616=true:=by rw[Nat.ble_eq];exact hcM
    have e1:Nat.ble k cc=true:=by rw[Nat.ble_eq];omega
    unfold BU
    rw[eM,AG]
    have e2:Nat.beq j cc=true:=by rw[hjc];exact Nat.beq_refl _
    rw[e1,AG,e2];rfl
  ·refine⟨.l id g (off+j*n) (k-j) fin (some (cc-j)),.inr ⟨id,g,off+j*n,fin,some (cc-j),by rw[htk],by rw[htk];omega,h3,hr⟩,.inr ⟨_,_,_,_,_,_,rfl,by show k-j<=cc-j;omega,fun h=>absurd hcM (by omega)⟩,fun g0 N=>Ai fun q=>?_⟩
   unfold Ig
   simp only[C0,Cw,Ba,e0,AG]
   show A1 (BP cc) _ (fun _=>BU n id g off L.length fin cc j k fun v=>q v)=_
   rw[hfc,BC,D2 hcM (by omega) (by omega)]
theorem Ss.lo {kd:IntKind} {k:Nat} (a:Ss n c h v L) (hc:∀ e,(c e).length=n) (w:V5 n v) (hk:k<=L.length):∃ u,Ss n c h u (L.drop k)/\V5 n u/\∀ (g:H) (N:Nx),H2 P (E3 n) v (.i kd (k:Int)) g N=N.go P u g:=by
 have e0:Nat.ble k L.length=true:=by rw[Nat.ble_eq];omega
 have hkn:k*n+(L.length-k)*n=L.length*n:=by rw[<-Nat.add_mul];congr 1;omega
 have htk:(L.drop k).length=L.length-k:=List.length_drop
 rcases a with⟨rfl,rfl⟩|⟨id,g,off,fin,cap,rfl,h2,h3,r⟩
 ·have:k=0:=by simpa using hk
  subst this
  exact⟨.l0,.inl ⟨rfl,by simp⟩,.inl rfl,fun g N=>Ai fun k=>rfl⟩
 rcases w with e|⟨id',g',off',n',fin',cap',e,hw⟩
 ·cases e
 cases e
 cases cap with
 |none=>
  have hw:fin=off+L.length*n:=hw
  refine⟨.l id g (off+k*n) (L.length-k) (off+L.length*n) none,.inr ⟨id,g,off+k*n,off+L.length*n,none,by rw[htk],by rw[htk];omega,h3,N1 hc r⟩,.inr ⟨_,_,_,_,_,_,rfl,by show off+L.length*n=off+k*n+(L.length-k)*n;omega⟩,fun g0 N=>Ai fun q=>?_⟩
  have e1:Nat.ble L.length L.length=true:=by rw[Nat.ble_eq];exact Nat.le_refl _
  have e2:Nat.beq fin (Nat.add off (Nat.mul L.length n))=true:=by rw[hw];exact Nat.beq_refl _
  unfold E3
  simp only[C0,Cw,Ba,e0,AG]
  show DB n id g off L.length fin k L.length q=_
  unfold DB
  rw[e1,AG,e2,AG,A2,A2,A2,IH]
  rfl
 |some cc=>
  have hw2:18446744073709551616<=cc->L.length=0:=hw.2
  have hw:L.length<=cc:=hw.1
  have e1:Nat.ble L.length cc=true:=by rw[Nat.ble_eq];omega
  cases hfc:BP cc with
  |true=>
   have hcc:=Gp hfc
   have hx:=hw2 hcc
   have hk0:k=0:=by omega
   subst hk0
   refine⟨.l id g off 0 off (some cc),.inr ⟨id,g,off,off,some cc,by rw[htk,hx],by rw[htk,hx];simp,h3,?_⟩,.inr ⟨_,_,_,_,_,_,rfl,Nat.zero_le _,fun _=>rfl⟩,fun g0 N=>Ai fun q=>?_⟩
   ·rw[List.drop_eq_nil_of_le (by omega)]
    exact⟨fun hne=>absurd rfl hne,fun i v hv=>by simp at hv⟩
   ·unfold E3
    simp only[C0,Cw,Ba,e0,AG]
    show A1 (BP cc) (fun _=>Ap (Nat.beq L.length 0) fun _=>q (.l id g off 0 off (some cc))) _=_
    rw[hfc,hx];rfl
  |false=>
  have hcM:=Gd hfc
  have eM:Nat.ble (Nat.succ cc) 18446744073709551616=true:=by rw[Nat.ble_eq];exact hcM
  by_cases hkc:k=cc
  ·have hx:L.length=k:=by omega
   refine⟨.l id g off 0 fin (some 0),.inr ⟨id,g,off,fin,some 0,by rw[htk,hx];simp,by rw[htk,hx];simp;omega,h3,?_⟩,.inr ⟨_,_,_,_,_,_,rfl,Nat.le_refl _,fun _=>rfl⟩,fun g0 N=>Ai fun q=>?_⟩
   ·rw[List.drop_eq_nil_of_le (by omega)]
    exact⟨fun hne=>absurd rfl hne,fun i v hv=>by simp at hv⟩
   ·unfold E3
    simp only[C0,Cw,Ba,e0,AG]
    show A1 (BP cc) _ (fun _=>BU n id g off L.length fin cc k L.length fun v=>q v)=_
    rw[hfc,BC]
    unfold BU
    rw[eM,AG]
    have e2:Nat.beq k cc=true:=by rw[hkc];exact Nat.beq_refl _
    rw[e1,AG,e2];rfl
  ·refine⟨.l id g (off+k*n) (L.length-k) fin (some (cc-k)),.inr ⟨id,g,off+k*n,fin,some (cc-k),by rw[htk],by rw[htk];omega,h3,N1 hc r⟩,.inr ⟨_,_,_,_,_,_,rfl,by show L.length-k<=cc-k;omega,fun h=>absurd hcM (by omega)⟩,fun g0 N=>Ai fun q=>?_⟩
   unfold E3
   simp only[C0,Cw,Ba,e0,AG]
   show A1 (BP cc) _ (fun _=>BU n id g off L.length fin cc k L.length fun v=>q v)=_
   rw[hfc,BC,D2 hcM (by omega) (by omega)]
/--the cells that are appended -/
theorem Ls (a:Ss n c h v L) (hc:∀ e,(c e).length=n) (hn:1<=n) (k:Nat->List V->Bool):DG n v h k=k L.length (L.flatMap c):=by
 rcases a with⟨rfl,rfl⟩|⟨id,g,off,fin,cap,rfl,hf,hl,r⟩
 ·rfl
 ·have hlen:=Cn hc L
  cases hm:L.length with
  |zero=>
   have:L=[]:=List.eq_nil_of_length_eq_zero hm
   subst this;rfl
  |succ m=>
   rw[hm]at hlen hf
   show Bo h id g off fin (Nat.mul (m+1) n) (fun vs=>k (m+1) vs)=_
   have hne:L.flatMap c≠[]:=by
    intro e;rw[e]at hlen
    have h3:(m+1)*n=0:=hlen.symm
    rw[Nat.add_mul]at h3;omega
   rw[show Nat.mul (m+1) n=(L.flatMap c).length by rw[hlen];rfl,C8 r rfl hne (by rw[hlen];omega)]
/--append([]T{e},l...) -/
theorem AP.lit {id:B} {cs:List V} {el:Nat} (o:DM h id cs) (hcs:cs.length=n) (hn:1<=n) (hc:∀ e,(c e).length=n) (a:Ss n c h v L) (hf:B.val h.floor<=B.val h.next) (hb:(1+L.length)*n<=1048576)
 (k0:L=[]->N.go P (.l id 0 0 1 n (some 1)) h)
 (k1:∀ v' h',L≠[]->Ff h' el n v' (cs++L.flatMap c)->NN h' v'->AU AQ h h'->(∀ i,Am v' i->B.val h.next<=B.val i)->N.go P v' h'):AP P el n (.l id 0 0 1 n (some 1)) v h N:=by
 have hlen:=Cn hc L
 cases hm:L.length with
 |zero=>
  have:L=[]:=List.eq_nil_of_length_eq_zero hm
  subst this
  refine DQ (v:=.l id 0 0 1 n (some 1)) (h':=h) (fun k=>?_) (k0 rfl)
  rw[Ls a hc hn];rfl
 |succ m=>
  have hne:L≠[]:=by intro e;rw[e]at hm;simp at hm
  have hb1:1+L.length<=1048576:=by
   have:=Nat.mul_le_mul_left (1+L.length) hn
   omega
  have Ab:(1+L.length)*n=n+L.length*n:=by rw[Nat.add_mul];omega
  obtain⟨h',a1,a2,a3,Ak,b1,b2,b3,b4,b5,b6,b7⟩:=DT el (cs++L.flatMap c) h (by rw[List.length_append];omega)
  refine DQ (v:=.l h.next 0 0 (1+L.length) ((1+L.length)*n) none) (h':=h') (fun k=>?_) (k1 _ h' hne ?_ ?_ a2 ?_)
  ·rw[Ls a hc hn]
   show A1 (Nat.ble (Nat.add 1 L.length) 1) (fun _=>F4 id 0 0 1 n 1 n L.length (L.flatMap c) h k) (fun _=>Dz el id 0 0 1 n n L.length (L.flatMap c) h k)=_
   have e1:Nat.ble (Nat.add 1 L.length) 1=false:=by
    cases hx:Nat.ble (Nat.add 1 L.length) 1 with
    |false=>rfl
    |true=>have:=Nat.le_of_ble_eq_true hx;have h2:1+L.length<=1:=this;omega
   rw[e1]
   show Dz el id 0 0 1 n n L.length (L.flatMap c) h k=_
   unfold Dz
   have e2:Nat.ble (Nat.add 1 L.length) 1048576=true:=by rw[Nat.ble_eq];exact hb1
   rw[e2,AG,show Nat.mul 1 n=cs.length by rw[hcs];show 1*n=n;omega,Kr (by omega),C8 o.row rfl (by intro e;rw[e]at hcs;simp at hcs;omega) (by omega),Dj,a1,A2,A2]
   rfl
  ·refine .inr ⟨h.next,0,1+L.length,Ak,by rw[List.length_append,hlen,hcs,<-Ab],by omega,by rw[List.length_append,hlen,hcs,<-Ab],by rw[a2.floor];exact hf,by omega,b1,⟨by omega,by omega⟩,b4,b5,b6,b7⟩
  ·intro id' g off m' fin cap e
   cases e
   exact⟨Ak,b1,b3⟩
  ·rintro i ⟨g,off,m',fin,cap,e⟩
   cases e;exact Nat.le_refl _
end
end Go.Ev
namespace Go.Ev
open Go Go.RowKit Go.WideShapes Go.ChangeShapes Go.ChangeAt Go.Deep
section
variable {H':Type} {enc:TypeId×Value->H'} {P:Program}
inductive Kd where
 |i (k:IntKind)
 |s
 |b
def Kd.ok (P:Program) (k:Kd) (t:TypeId):Prop:=match k with
 |.i k=>P.underlying t=some (.int k)
 |.s=>P.underlying t=some .string
 |.b=>P.underlying t=some .bool
def Sf (P:Program) (l:List Field):Nat->List Kd->Prop
 |_,[]=>True
 |n,k::ks=>(∃ f,l[n]? =some f/\f.offset=n/\P.cellsOf f.type=1/\k.ok P f.type)/\Sf P l (n+1) ks
/--a struct whose fields are numbers,texts,bools -/
structure RU (P:Program) (t:TypeId) (fs:Array Field) (ks:List Kd):Prop where
 ut:P.underlying t=some (.struct fs)
 sz:P.cellsOf t=ks.length
 yh:Sf P fs.toList 0 ks
def Kd.fit (k:Kd) (c:Value):Prop:=match k with
 |.i k=>∃ n,c=.int k n/\(Lit.int k n).wf=true
 |.s=>∃ s:ByteArray,c=.string s/\s.size<=maxLen
 |.b=>∃ q,c=.bool q
def Fits:List Kd->List Value->Prop
 |[],cs=>cs=[]
 |k::ks,cs=>∃ c r,cs=c::r/\k.fit c/\Fits ks r
theorem Pd {W:World} {t:TypeId} {fs:Array Field} {ks:List Kd} {fuel:Nat} {cs:List Value} {x:DataW H'×List MemPlace} (F:RU P t fs ks) (hd:DataW.trod enc P W 0 (fun _=>true) true fuel t cs=some x):Fits ks cs:=by
 have hf:cs.length=ks.length/\∀ (i:Nat) f,fs.toList[i]? =some f->∃ n y,DataW.trod enc P W 0 (fun _=>true) true n f.type ((cs.drop f.offset).take (P.cellsOf f.type))=some y:=by
  cases fuel with
  |zero=>simp[DataW.trod]at hd
  |succ n=>
   unfold DataW.trod at hd
   rw[F.ut]at hd
   simp only at hd
   split at hd
   ·rename_i hl
    refine⟨hl.trans F.sz,fun i f hf=>?_⟩
    rw[Option.map_eq_some_iff]at hd
    obtain⟨xs,hx,_⟩:=hd
    have:=mapM_some_get hx i f hf
    have hlen:=mapM_some_length hx
    have hi:i<xs.length:=by rw[hlen];exact(List.getElem?_eq_some_iff.1 hf).1
    exact⟨n,xs[i],by rw[this];simp⟩
   ·cases hd
 obtain⟨hl,hf⟩:=hf
 have go:∀ (ks:List Kd) (n:Nat),Sf P fs.toList n ks->cs.length=n+ks.length->Fits ks (cs.drop n):=by
  intro ks
  induction ks with
  |nil=>intro n _ e;exact List.drop_eq_nil_of_le (by rw[e];exact Nat.le_refl _)
  |cons k ks ih=>
   rintro n ⟨⟨f,g,o,c,u⟩,hr⟩ e
   have hlt:n<cs.length:=by rw[e,List.length_cons];omega
   have hc:cs.drop n=cs[n]::cs.drop (n+1):=List.drop_eq_getElem_cons hlt
   obtain⟨m,y,h⟩:=hf n f g
   rw[o,c,hc]at h
   refine⟨cs[n],cs.drop (n+1),hc,?_,ih (n+1) hr (by rw[e,List.length_cons];omega)⟩
   cases k with
   |i kd=>
    obtain⟨z,e1,_,z1⟩:=DataW.trod_int u h
    exact⟨z,(List.cons.inj e1).1,z1⟩
   |s=>
    obtain⟨z,e1,_,z1⟩:=DataW.trod_string u h
    exact⟨z,(List.cons.inj e1).1,z1⟩
   |b=>
    obtain⟨z,e1,_⟩:=DataW.trod_bool u h
    exact⟨z,(List.cons.inj e1).1⟩
 have:=go ks 0 F.yh (by rw[hl,Nat.zero_add])
 rwa [List.drop_zero]at this
theorem Mo (W:World) (k:IntKind) (n:Int):Cp W (.int k n)=.i k n:=by unfold Cp;rfl
/--a row of structs:c tells a struct's cells -/
theorem O4 {α:Type} [Inhabited α] {c:α->List V} {n:Nat} {Pr:α->Prop} (hc:∀ a,(c a).length=n) (hn:1<=n) {W:World} {h:H} (s:Start W h) (h0:0<W.heap.size) {t e:TypeId} {fuel:Nat} {cs:List Value} {x:DataW H'×List MemPlace}
 (ht:P.underlying t=some (.slice e)) (sz:P.cellsOf e=n) (cell:∀ (fuel:Nat) (cs:List Value) (x:DataW H'×List MemPlace),DataW.trod enc P W 0 (fun _=>true) true fuel e cs=some x->∃ a,cs.map (Cp W)=c a/\Pr a)
 (hd:DataW.trod enc P W 0 (fun _=>true) true fuel t cs=some x):∃ sv L,cs=[sv]/\Ss n c h (Cp W sv) L/\L.length<=9223372036854775807/\∀ a∈L,Pr a:=by
 rcases open_slice ht hd with⟨rfl,_⟩|⟨a,len,cap,m,nn,D,Pl,rfl,hb,hl,hm,hmm,_,hx⟩
 ·exact⟨_,[],rfl,.inl ⟨rfl,rfl⟩,by simp,fun e he=>by cases he⟩
 simp only[if_true]at hmm
 rw[sz]at hx
 have hx':∀ i,i<len->∃ E:α×List Value,E.2.map (Cp W)=c E.1/\Pr E.1/\(∀ d y,E.2[d]? =some y->W.cell? ⟨a.block,a.off+i*n+d,none⟩=some y)/\(0<len->a.spot=none):=by
  intro i hi
  obtain⟨cs',h1,h2⟩:=hx i (by omega)
  obtain⟨z,e1,e2⟩:=cell _ _ _ h2
  have hlen':cs'.length=n:=by have:=congrArg List.length e1;rwa [List.length_map,hc]at this
  obtain⟨_,_,h3⟩:=World.cells?_some h1
  refine⟨(z,cs'),e1,e2,fun d y hy=>?_,fun _=>?_⟩
  ·have hd:d<n:=by have:d<cs'.length:=(List.getElem?_eq_some_iff.1 hy).1;omega
   have hy:cs'[d]? =some y:=hy
   have h4:=h3 d hd
   rw[hy]at h4
   have h5:=Mg h4
   have e1:(a.add (i*n)).block=a.block:=by unfold Addr.add;split<;>rfl
   have e2:(a.add (i*n)).off=a.off+i*n:=by
    unfold Addr.add;split
    ·rename_i hz;rw[hz];rfl
    ·rfl
   rw[e1,e2]at h5
   exact h5
  ·obtain⟨cs0,g1,g2⟩:=hx 0 (by omega)
   obtain⟨z0,e3,_⟩:=cell _ _ _ g2
   have hl0:cs0.length=n:=by have:=congrArg List.length e3;rwa [List.length_map,hc]at this
   obtain⟨_,_,g3⟩:=World.cells?_some g1
   have g4:=g3 0 (by omega)
   rw[List.getElem?_eq_getElem (by omega)]at g4
   have g5:=World.cell?_spot g4
   unfold Addr.add at g5
   simpa using g5
 haveI:Inhabited (α×List Value):=⟨(default,[])⟩
 obtain⟨E,hE⟩:=choose_lt (α:=α×List Value) (p:=fun i r=>r.2.map (Cp W)=c r.1/\Pr r.1/\(∀ d y,r.2[d]? =some y->W.cell? ⟨a.block,a.off+i*n+d,none⟩=some y)/\(0<len->a.spot=none)) hx'
 have hL:((List.range len).map fun i=>(E i).1).length=len:=by simp
 refine⟨_,(List.range len).map fun i=>(E i).1,rfl,?_,by rw[hL];exact Ko (by omega),fun e he=>?_⟩
 ·obtain⟨b,off,spot⟩:=a
  cases len with
  |zero=>
   have e:Cp W (.slice (some ⟨b,off,spot⟩) 0 cap)=.l (nb 0) 0 0 0 0 none:=by unfold Cp;simp only[if_pos h0]
   rw[e]
   exact .inr ⟨nb 0,0,0,0,none,rfl,by simp,(s.Ak 0 h0).1,fun hne=>absurd rfl hne,fun i v hv=>by simp at hv⟩
  |succ m=>
   have hs':spot=none:=(hE 0 (by omega)).2.2.2 (by omega)
   subst hs'
   have hcell:∀ i,i<m+1->∀ d y,(E i).2[d]? =some y->b<W.heap.size/\off+i*n+d<I9 W b/\(∃ Ak,h.heap.get (nb b)=some Ak/\Ak.min<=0)/\Ev.cell h (nb b) 0 (off+i*n+d)=some (Cp W y):=
    fun i hi d y hy=>s.cell ((hE i hi).2.2.1 d y hy)
   have hEl:∀ i,i<m+1->(E i).2.length=n:=fun i hi=>by have:=congrArg List.length (hE i hi).1;rwa [List.length_map,hc]at this
   obtain⟨d1,d2,d3,d4⟩:=hcell m (by omega) (n-1) _ (List.getElem?_eq_getElem (by rw[hEl m (by omega)];omega))
   have e:Cp W (.slice (some ⟨b,off,none⟩) (m+1) cap)=.l (nb b) 0 off (m+1) (I9 W b) (some cap):=by unfold Cp;simp only[if_pos (⟨d1,hl,Nat.lt_of_le_of_lt hm Kj⟩:b<W.heap.size/\m+1<=cap/\cap<18446744073709551616)]
   rw[e]
   have hmul:(m+1)*n=m*n+n:=by rw[Nat.add_mul,Nat.one_mul]
   refine .inr ⟨nb b,0,off,I9 W b,some cap,by rw[hL],by rw[hL,hmul];omega,(s.Ak b d1).1,fun _=>d3,fun j v hv=>?_⟩
   have hj:j<(((List.range (m+1)).map fun i=>(E i).1).flatMap c).length:=(List.getElem?_eq_some_iff.1 hv).1
   rw[Cn hc,hL]at hj
   obtain⟨i,d,rfl,hd,hi⟩:∃ i d,j=i*n+d/\d<n/\i<m+1:=⟨j/n,j%n,by rw[Nat.mul_comm];exact(Nat.div_add_mod j n).symm,Nat.mod_lt _ (by omega),Nat.div_lt_of_lt_mul (by rw[Nat.mul_comm];exact hj)⟩
   rw[KE hc (by rw[hL];exact hi) hd]at hv
   have hG:((List.range (m+1)).map fun i=>(E i).1).getD i default=(E i).1:=by simp[List.getD,hi]
   have hy:(E i).2[d]? =some ((E i).2[d]'(by rw[hEl i hi];exact hd)):=List.getElem?_eq_getElem _
   generalize (E i).2[d]'(by rw[hEl i hi];exact hd)=y at hy
   rw[hG,<-(hE i hi).1]at hv
   have:((E i).2.map (Cp W)).getD d .u=Cp W y:=by simp[List.getD,hy]
   rw[this]at hv
   cases hv
   rw[<-Nat.add_assoc]
   exact(hcell i hi d y hy).2.2.2
 ·obtain⟨i,hi,rfl⟩:=List.mem_map.1 he
  rw[List.mem_range]at hi
  exact(hE i hi).2.1
end
end Go.Ev
set_option maxRecDepth 1000000
namespace Go.Proofs.Ytobfgempjekjpaa
open Go Go.Ev
abbrev pJ:CC:=(CC.seq (CC.region [(wB 2 (AA (O.c V.l0)))]) CC.ret)
abbrev tS:CC:=(CC.cond (tm 4) pJ CC.skip)
abbrev kj:CC:=(CC.seq (CC.region [(wB 3 (AA (tm 0))),(wB 4 (Ic Tc Bool.false (tm 3) (O.c V.l0)))]) tS)
abbrev sr:CC:=(CC.seq (CC.region [(wB 5 (Ax 57 0 [] [])),(wB 6 (AA (tm 0))),(wB 7 (Bn 57 5 (tm 5) (tm 6))),(wB 2 (AA (tm 7)))]) CC.ret)
abbrev mO:CC:=(CC.seq kj sr)
abbrev yx:CC:=(CC.seq (CC.region [(wB 2 (AA (O.c V.l0)))]) mO)
theorem wW:AV Try.prog 48=⟨8,yx,[(Rs.tmp (AR 2))]⟩:=by kernel_rfl
abbrev gp:CC:=(CC.seq (CC.region [(wB 13 (AA (tm 0))),(wB 4 (AA (tm 13)))]) CC.ret)
abbrev iU:CC:=(CC.cond (tm 12) gp CC.skip)
abbrev fv:CC:=(CC.seq (CC.region [(wB 11 (AA (tm 5))),(wB 12 (AM Ec (tm 11) (O.c (V.i IntKind.i64 (Int.negSucc 0)))))]) iU)
abbrev qa:CC:=(CC.cond (tm 19) CC.skip (CC.exit 0))
abbrev uD:CC:=(CC.seq (CC.region [(wB 16 (AA (tm 6))),(wB 17 (AA (tm 0))),(wB 18 (BW (tm 17))),(wB 19 (AM Bt (tm 16) (tm 18)))]) qa)
abbrev mj:CC:=(CC.region [(wB 34 (AA (tm 5))),(wB 35 (AM BB (tm 34) (oN 1))),(wB 5 (AA (tm 35)))])
abbrev kg:CC:=(CC.seq (CC.region [(wB 30 (AA (tm 0))),(wB 31 (AA (tm 5))),(wB 32 (AT 5 (tm 7))),(wB 33 (AF 5 (tm 30) (tm 31))),(CO.mk G.none D.none Bool.true (CR.mk (Ae 5 (tm 33) (tm 32))))]) mj)
abbrev nv:CC:=(CC.cond (tm 29) kg CC.skip)
abbrev tV:CC:=(CC.seq (CC.region [(wB 26 (AA (tm 1))),(wB 27 (AT 5 (tm 7))),(wB 28 (Bc (tm 26) [(tm 27)])),(wB 29 (Cc (tm 28)))]) nv)
abbrev nU:CC:=(CC.seq (CC.region [(wB 22 (AA (tm 0))),(wB 23 (AA (tm 6))),(wB 24 (AF 5 (tm 22) (tm 23))),(wB 25 (AT 5 (tm 24))),(wB 7 (CB 57 [(V.i IntKind.i64 (Int.ofNat 0)),(V.i IntKind.i64 (Int.ofNat 0)),(V.s 0 0),(V.s 0 0),(V.i IntKind.i64 (Int.ofNat 0))])),(CO.mk G.none D.none Bool.true (CR.mk (Ae 5 (tm 7) (tm 25))))]) tV)
abbrev bW:CC:=(CC.block 1 nU)
abbrev cS:CC:=(CC.region [(wB 20 (AA (tm 6))),(wB 21 (AM BB (tm 20) (oN 1))),(wB 6 (AA (tm 21)))])
abbrev Zt:CC:=(CC.seq bW cS)
abbrev qM:CC:=(CC.seq uD Zt)
abbrev XM:CC:=(CC.loop qM)
abbrev dv:CC:=(CC.block 0 XM)
abbrev Xz:CC:=(CC.seq (CC.region [(wB 14 (AA (tm 5))),(wB 15 (AM BB (tm 14) (oN 1))),(wB 6 (AA (tm 15)))]) dv)
abbrev cO:CC:=(CC.seq (CC.region [(wB 39 (AA (tm 0))),(wB 40 (AA (tm 5))),(wB 41 (B0 5 (tm 39) none (some (tm 40)))),(wB 4 (AA (tm 41)))]) CC.ret)
abbrev YF:CC:=(CC.seq (CC.region [(wB 36 (AA (tm 0))),(wB 37 (AA (tm 5))),(wB 38 (B0 5 (tm 36) (some (tm 37)) none)),(CO.mk G.none D.none Bool.true (CR.mk (D4 [(V.i IntKind.i64 (Int.ofNat 0)),(V.i IntKind.i64 (Int.ofNat 0)),(V.s 0 0),(V.s 0 0),(V.i IntKind.i64 (Int.ofNat 0))] (tm 38))))]) cO)
abbrev Ya:CC:=(CC.seq Xz YF)
abbrev dK:CC:=(CC.seq fv Ya)
abbrev WD:CC:=(CC.seq (CC.region [(wB 8 (AA (tm 0))),(wB 9 (AA (tm 1))),(wB 10 (AY 72 [(tm 8),(tm 9)])),(wB 5 (AA (tm 10)))]) dK)
abbrev wi:CC:=(CC.seq (CC.region [(wB 4 (AA (O.c V.l0)))]) WD)
theorem yn:AV Try.prog 59=⟨42,wi,[(Rs.tmp (AR 4))]⟩:=by kernel_rfl
abbrev lM:CC:=(CC.seq (CC.region [(wB 5 (AA (tm 0))),(wB 6 (AA (tm 1))),(wB 7 (AY 72 [(tm 5),(tm 6)])),(wB 8 (AM EN (tm 7) (oN 0))),(wB 4 (AA (tm 8)))]) CC.ret)
abbrev yj:CC:=(CC.seq (CC.region [(wB 4 (AA (O.c (V.b Bool.false))))]) lM)
theorem yk:AV Try.prog 57=⟨9,yj,[(Rs.tmp (AR 4))]⟩:=by kernel_rfl
abbrev kK:CC:=(CC.cond (tm 9) CC.skip (CC.exit 0))
abbrev iC:CC:=(CC.seq (CC.region [(wB 17 (AA (tm 5))),(wB 4 (AA (tm 17)))]) CC.ret)
abbrev rL:CC:=(CC.cond (tm 16) iC CC.skip)
abbrev se:CC:=(CC.seq (CC.region [(wB 11 (AA (tm 1))),(wB 12 (AA (tm 0))),(wB 13 (AA (tm 5))),(wB 14 (AF 5 (tm 12) (tm 13))),(wB 15 (AT 5 (tm 14))),(wB 16 (Bc (tm 11) [(tm 15)]))]) rL)
abbrev uE:CC:=(CC.seq (CC.region [(wB 10 (AA (tm 8))),(wB 5 (AA (tm 10)))]) se)
abbrev qG:CC:=(CC.block 1 uE)
abbrev gn:CC:=(CC.region [(wB 18 (AM BB (tm 8) (oN 1))),(wB 8 (AA (tm 18)))])
abbrev pU:CC:=(CC.seq qG gn)
abbrev iS:CC:=(CC.seq kK pU)
abbrev tv:CC:=(CC.seq (CC.region [(wB 9 (AM Bt (tm 8) (tm 7)))]) iS)
abbrev rK:CC:=(CC.loop tv)
abbrev Yl:CC:=(CC.block 0 rK)
abbrev Yf:CC:=(CC.seq (CC.region [(wB 6 (AA (tm 0))),(wB 7 (BW (tm 6))),(wB 8 (AA (oN 0)))]) Yl)
abbrev aC:CC:=(CC.seq (CC.region [(wB 4 (AA (O.c (V.i IntKind.i64 (Int.negSucc 0)))))]) CC.ret)
abbrev dD:CC:=(CC.seq Yf aC)
abbrev xM:CC:=(CC.seq (CC.region [(wB 4 (AA (oN 0)))]) dD)
theorem yG:AV Try.prog 72=⟨19,xM,[(Rs.tmp (AR 4))]⟩:=by kernel_rfl
abbrev tl:CC:=(CC.seq (CC.region [(wB 5 (AA (tm 0))),(wB 6 (AA (tm 1))),(wB 7 (AY 73 [(tm 5),(tm 6)])),(wB 8 (AM EN (tm 7) (oN 0))),(wB 4 (AA (tm 8)))]) CC.ret)
abbrev yW:CC:=(CC.seq (CC.region [(wB 4 (AA (O.c (V.b Bool.false))))]) tl)
theorem yu:AV Try.prog 61=⟨9,yW,[(Rs.tmp (AR 4))]⟩:=by kernel_rfl
abbrev iW:CC:=(CC.cond (tm 9) CC.skip (CC.exit 0))
abbrev pT:CC:=(CC.seq (CC.region [(wB 17 (AA (tm 5))),(wB 4 (AA (tm 17)))]) CC.ret)
abbrev gd:CC:=(CC.cond (tm 16) pT CC.skip)
abbrev qf:CC:=(CC.seq (CC.region [(wB 11 (AA (tm 1))),(wB 12 (AA (tm 0))),(wB 13 (AA (tm 5))),(wB 14 (AF 1 (tm 12) (tm 13))),(wB 15 (AW (tm 14))),(wB 16 (AM Ec (tm 11) (tm 15)))]) gd)
abbrev sG:CC:=(CC.seq (CC.region [(wB 10 (AA (tm 8))),(wB 5 (AA (tm 10)))]) qf)
abbrev sN:CC:=(CC.block 1 sG)
abbrev tZ:CC:=(CC.region [(wB 18 (AM BB (tm 8) (oN 1))),(wB 8 (AA (tm 18)))])
abbrev qm:CC:=(CC.seq sN tZ)
abbrev qR:CC:=(CC.seq iW qm)
abbrev pN:CC:=(CC.seq (CC.region [(wB 9 (AM Bt (tm 8) (tm 7)))]) qR)
abbrev gA:CC:=(CC.loop pN)
abbrev XO:CC:=(CC.block 0 gA)
abbrev ZP:CC:=(CC.seq (CC.region [(wB 6 (AA (tm 0))),(wB 7 (BW (tm 6))),(wB 8 (AA (oN 0)))]) XO)
abbrev bm:CC:=(CC.seq (CC.region [(wB 4 (AA (O.c (V.i IntKind.i64 (Int.negSucc 0)))))]) CC.ret)
abbrev XH:CC:=(CC.seq ZP bm)
abbrev xZ:CC:=(CC.seq (CC.region [(wB 4 (AA (oN 0)))]) XH)
theorem yl:AV Try.prog 73=⟨19,xZ,[(Rs.tmp (AR 4))]⟩:=by kernel_rfl
abbrev nS:CC:=(CC.seq (CC.region [(wB 3 (AA (tm 0))),(wB 4 (AY 74 [(tm 3)])),(wB 2 (AA (tm 4)))]) CC.ret)
abbrev xw:CC:=(CC.seq (CC.region [(wB 2 (AA (O.c (V.s 0 0))))]) nS)
theorem xJ:AV Try.prog 62=⟨5,xw,[(Rs.tmp (AR 2))]⟩:=by kernel_rfl
abbrev sl:CC:=(CC.seq (CC.region [(wB 2 (AA (O.c (V.s 0 0))))]) CC.ret)
abbrev qQ:CC:=(CC.cond (tm 6) sl CC.skip)
abbrev fu:CC:=(CC.seq (CC.region [(wB 4 (AA (tm 0))),(wB 5 (DA (tm 4))),(wB 6 (AM Ec (tm 5) (oN 0)))]) qQ)
abbrev hD:CC:=(CC.seq (CC.region [(wB 13 (AA (tm 3))),(wB 14 (AF 1 (tm 13) (oN 0))),(wB 15 (AA (tm 3))),(wB 16 (BW (tm 15))),(wB 17 (HA 5 (tm 14) (tm 16))),(wB 2 (AA (tm 17)))]) CC.ret)
abbrev nJ:CC:=(CC.seq (CC.region [(wB 10 (AA (tm 3))),(wB 11 (AA (tm 0))),(wB 12 (GY (tm 10) (tm 11)))]) hD)
abbrev kL:CC:=(CC.seq (CC.region [(wB 7 (AA (tm 0))),(wB 8 (DA (tm 7))),(wB 9 (DS 5 [(V.i IntKind.u8 (Int.ofNat 0))] (tm 8) (tm 8))),(wB 3 (AA (tm 9)))]) nJ)
abbrev si:CC:=(CC.seq fu kL)
abbrev xD:CC:=(CC.seq (CC.region [(wB 2 (AA (O.c (V.s 0 0))))]) si)
theorem xU:AV Try.prog 74=⟨18,xD,[(Rs.tmp (AR 2))]⟩:=by kernel_rfl
abbrev gw:CC:=(CC.seq (CC.region [(wB 1 (Ct [V.l0,(V.i IntKind.i64 (Int.ofNat 0)),(V.i IntKind.i64 (Int.ofNat 0)),(V.i IntKind.i64 (Int.ofNat 0))] [(Pt.mk 1 1 (oN 1)),(Pt.mk 3 1 (oN 1))])),(wB 2 (DR 79 (tm 1))),(wB 0 (AA (tm 2)))]) CC.ret)
abbrev yF:CC:=(CC.seq (CC.region [(wB 0 (AA (O.c V.p0)))]) gw)
theorem yb:AV Try.prog 17=⟨3,yF,[(Rs.tmp (AR 0))]⟩:=by kernel_rfl
abbrev pd:CC:=(CC.seq (CC.region [(wB 4 (AA (oN 10)))]) CC.ret)
abbrev tN:CC:=(CC.seq (CC.region [(wB 4 (AA (oN 18)))]) CC.ret)
abbrev mv:CC:=(CC.seq (CC.region [(wB 4 (AA (oN 16)))]) CC.ret)
abbrev mi:CC:=(CC.cond (tm 17) mv CC.skip)
abbrev fg:CC:=(CC.seq (CC.region [(wB 18 (AA (tm 0))),(wB 19 (AT 4 (tm 3))),(wB 20 (AY 43 [(tm 18),(tm 19)])),(wB 17 (AA (tm 20)))]) mi)
abbrev pq:CC:=(CC.cond (tm 11) tN fg)
abbrev mw:CC:=(CC.seq (CC.region [(wB 12 (AA (tm 0))),(wB 13 (AH 0 (tm 3))),(wB 14 (AW (tm 13))),(wB 15 (AY 42 [(tm 12),(tm 14)])),(wB 16 (Cc (tm 15))),(wB 11 (AA (tm 16)))]) pq)
abbrev mW:CC:=(CC.cond (tm 7) pd mw)
abbrev mF:CC:=(CC.seq (CC.region [(wB 8 (AT 4 (tm 3))),(wB 9 (AY 31 [(tm 8)])),(wB 10 (Cc (tm 9))),(wB 7 (AA (tm 10)))]) mW)
abbrev p7:CC:=(CC.block 0 mF)
abbrev Zp:CC:=(CC.seq (CC.region [(wB 4 (AA (oN 16)))]) CC.ret)
abbrev WL:CC:=(CC.seq (CC.region [(wB 4 (AA (oN 25)))]) CC.ret)
abbrev cq:CC:=(CC.cond (tm 27) WL CC.skip)
abbrev bo:CC:=(CC.seq (CC.region [(wB 28 (AA (tm 5))),(wB 29 (BW (tm 28))),(wB 30 (AM Dc (tm 29) (oN 40))),(wB 27 (AA (tm 30)))]) cq)
abbrev Wt:CC:=(CC.cond (tm 24) Zp bo)
abbrev YW:CC:=(CC.seq (CC.region [(wB 25 (AA (tm 5))),(wB 26 (AY 45 [(tm 25)])),(wB 24 (AA (tm 26)))]) Wt)
abbrev Ws:CC:=(CC.block 1 YW)
abbrev Xc:CC:=(CC.region [(wB 61 (AA (tm 0))),(wB 62 (AH 1 (tm 3))),(wB 63 (AW (tm 62))),(wB 64 (AA (tm 6))),(wB 65 (AF 5 (tm 63) (tm 64))),(wB 66 (AH 0 (tm 65))),(wB 67 (AW (tm 66))),(wB 68 (AM BB (tm 67) (oN 1))),(wB 69 (Ag (tm 61))),(wB 70 (AH 3 (tm 69))),(CO.mk G.none D.none Bool.true (CR.mk (Ae 1 (tm 70) (tm 68))))])
abbrev YE:CC:=(CC.cond (tm 60) Xc CC.skip)
abbrev dS:CC:=(CC.seq (CC.region [(wB 59 (AA (tm 6))),(wB 60 (AM EN (tm 59) (oN 0)))]) YE)
abbrev Xl:CC:=(CC.seq (CC.region [(wB 55 (AH 1 (tm 3))),(wB 56 (AW (tm 55))),(wB 57 (BW (tm 56))),(wB 58 (AM Bq (tm 57) (oN 1))),(wB 6 (AA (tm 58)))]) dS)
abbrev aI:CC:=(CC.seq (CC.region [(wB 4 (AA (oN 0)))]) CC.ret)
abbrev dj:CC:=(CC.seq Xl aI)
abbrev ca:CC:=(CC.seq (CC.A7 [(uB 35 (AA (tm 0))),(uB 36 (AA (tm 0))),(uB 37 (AA (tm 0))),(uB 38 (Ag (tm 37))),(uB 39 (AH 1 (tm 38))),(uB 40 (AW (tm 39))),(uB 41 (AH 2 (tm 3))),(uB 42 (AW (tm 41))),(uB 43 (Fx (tm 40) (tm 42))),(uB 44 (AA (tm 0))),(uB 45 (Ag (tm 44))),(uB 46 (AH 2 (tm 45))),(uB 47 (AW (tm 46))),(uB 48 (AH 3 (tm 3))),(uB 49 (AW (tm 48))),(uB 50 (Fx (tm 47) (tm 49))),(uB 51 (Ag (tm 35))),(uB 52 (AH 1 (tm 51))),(CO.mk G.none D.none Bool.false (CR.mk (Ae 1 (tm 52) (tm 43)))),(wB 53 (Ag (tm 36))),(uB 54 (AH 2 (tm 53))),(CO.mk G.none D.none Bool.true (CR.mk (Ae 1 (tm 54) (tm 50))))] (some ([18,21],[(3,[0]),(5,[0]),(7,[0]),(10,[0]),(12,[0]),(14,[0,19]),(16,[0]),(19,[19])]))) dj)
abbrev ae:CC:=(CC.seq (CC.region [(wB 31 (AA (tm 0))),(wB 32 (AA (tm 5))),(wB 33 (Ag (tm 31))),(wB 34 (AH 0 (tm 33))),(CO.mk G.none D.none Bool.true (CR.mk (Ae 1 (tm 34) (tm 32))))]) ca)
abbrev eO:CC:=(CC.seq Ws ae)
abbrev WQ:CC:=(CC.seq (CC.region [(wB 21 (AA (tm 0))),(wB 22 (AT 4 (tm 3))),(wB 23 (AY 44 [(tm 21),(tm 22)])),(wB 5 (AA (tm 23)))]) eO)
abbrev eB:CC:=(CC.seq p7 WQ)
abbrev ye:CC:=(CC.seq (CC.region [(wB 3 (DR 35 (tm 1))),(wB 4 (AA (oN 0)))]) eB)
theorem xy:AV Try.prog 18=⟨71,ye,[(Rs.tmp (AR 4))]⟩:=by kernel_rfl
abbrev mG:CC:=(CC.seq (CC.region [(wB 3 (AA (tm 0))),(wB 4 (Ag (tm 3))),(wB 5 (AH 0 (tm 4))),(wB 6 (AW (tm 5))),(wB 7 (AY 48 [(tm 6)])),(wB 2 (AA (tm 7)))]) CC.ret)
abbrev yz:CC:=(CC.seq (CC.region [(wB 2 (AA (O.c V.l0)))]) mG)
theorem yC:AV Try.prog 26=⟨8,yz,[(Rs.tmp (AR 2))]⟩:=by kernel_rfl
abbrev lU:CC:=(CC.cond (tm 14) CC.skip (CC.exit 0))
abbrev sm:CC:=(CC.region [(wB 21 (AA (tm 5))),(wB 22 (AT 5 (tm 7))),(wB 23 (Ax 57 1 [(V.i IntKind.i64 (Int.ofNat 0)),(V.i IntKind.i64 (Int.ofNat 0)),(V.s 0 0),(V.s 0 0),(V.i IntKind.i64 (Int.ofNat 0))] [(Pt.mk 0 5 (tm 22))])),(wB 24 (Bn 57 5 (tm 21) (tm 23))),(wB 5 (AA (tm 24)))])
abbrev jc:CC:=(CC.cond (tm 20) sm CC.skip)
abbrev tX:CC:=(CC.seq (CC.region [(wB 17 (AH 1 (tm 7))),(wB 18 (AW (tm 17))),(wB 19 (AA (tm 1))),(wB 20 (AM Ec (tm 18) (tm 19)))]) jc)
abbrev jb:CC:=(CC.seq (CC.region [(wB 15 (AF 5 (tm 11) (tm 13))),(wB 16 (AT 5 (tm 15))),(wB 7 (CB 57 [(V.i IntKind.i64 (Int.ofNat 0)),(V.i IntKind.i64 (Int.ofNat 0)),(V.s 0 0),(V.s 0 0),(V.i IntKind.i64 (Int.ofNat 0))])),(CO.mk G.none D.none Bool.true (CR.mk (Ae 5 (tm 7) (tm 16))))]) tX)
abbrev gS:CC:=(CC.block 1 jb)
abbrev gU:CC:=(CC.region [(wB 25 (AM BB (tm 13) (oN 1))),(wB 13 (AA (tm 25)))])
abbrev iO:CC:=(CC.seq gS gU)
abbrev jK:CC:=(CC.seq lU iO)
abbrev kz:CC:=(CC.seq (CC.region [(wB 14 (AM Bt (tm 13) (tm 12)))]) jK)
abbrev uA:CC:=(CC.loop kz)
abbrev cb:CC:=(CC.block 0 uA)
abbrev Xn:CC:=(CC.seq (CC.region [(wB 8 (AA (tm 0))),(wB 9 (Ag (tm 8))),(wB 10 (AH 0 (tm 9))),(wB 11 (AW (tm 10))),(wB 12 (BW (tm 11))),(wB 13 (AA (oN 0)))]) cb)
abbrev cn:CC:=(CC.seq (CC.region [(wB 26 (AA (tm 5))),(wB 4 (AA (tm 26)))]) CC.ret)
abbrev dX:CC:=(CC.seq Xn cn)
abbrev bU:CC:=(CC.seq (CC.region [(wB 5 (AA (O.c V.l0)))]) dX)
abbrev xQ:CC:=(CC.seq (CC.region [(wB 4 (AA (O.c V.l0)))]) bU)
theorem xz:AV Try.prog 25=⟨27,xQ,[(Rs.tmp (AR 4))]⟩:=by kernel_rfl
abbrev p6:CC:=(CC.seq (CC.region [(wB 2 (AA (O.c (V.b Bool.false))))]) CC.ret)
abbrev jk:CC:=(CC.cond (tm 14) p6 CC.skip)
abbrev nT:CC:=(CC.seq (CC.region [(wB 5 (AH 0 (tm 1))),(wB 6 (AW (tm 5))),(wB 7 (BW (tm 6))),(wB 8 (AM Dc (tm 7) (oN 40))),(wB 9 (AA (tm 8))),(wG 9 false 10 (AH 1 (tm 1))),(wG 9 false 11 (AW (tm 10))),(wG 9 false 12 (BW (tm 11))),(wG 9 false 13 (AM Dc (tm 12) (oN 40))),(wB 14 (Ay (tm 9) (O.c (V.b Bool.true)) (tm 13)))]) jk)
abbrev ry:CC:=(CC.cond (tm 19) CC.skip (CC.exit 0))
abbrev jH:CC:=(CC.seq (CC.region [(wB 2 (AA (O.c (V.b Bool.false))))]) CC.ret)
abbrev pj:CC:=(CC.cond (tm 25) jH CC.skip)
abbrev mZ:CC:=(CC.seq (CC.region [(wB 23 (AT 5 (tm 4))),(wB 24 (AY 49 [(tm 23)])),(wB 25 (Cc (tm 24)))]) pj)
abbrev iD:CC:=(CC.seq (CC.region [(wB 2 (AA (O.c (V.b Bool.false))))]) CC.ret)
abbrev nG:CC:=(CC.cond (tm 39) iD CC.skip)
abbrev qV:CC:=(CC.seq (CC.A7 [(uB 26 (AA (tm 3))),(uB 27 (AM Dc (tm 26) (oN 0))),(uB 28 (AA (tm 27))),(uG 28 true 29 (AH 1 (tm 1))),(uG 28 true 30 (AW (tm 29))),(uG 28 true 31 (AA (tm 3))),(uG 28 true 32 (AM Bq (tm 31) (oN 1))),(uG 28 true 33 (AF 5 (tm 30) (tm 32))),(uG 28 true 34 (AH 0 (tm 33))),(uG 28 true 35 (AW (tm 34))),(uG 28 true 36 (AH 0 (tm 4))),(uG 28 true 37 (AW (tm 36))),(uG 28 true 38 (AM EN (tm 35) (tm 37))),(uB 39 (Ay (tm 28) (tm 38) (O.c (V.b Bool.false))))] none) nG)
abbrev Ys:CC:=(CC.seq mZ qV)
abbrev WC:CC:=(CC.seq (CC.region [(wB 20 (AA (tm 18))),(wB 21 (AF 5 (tm 16) (tm 18))),(wB 22 (AT 5 (tm 21))),(wB 4 (CB 57 [(V.i IntKind.i64 (Int.ofNat 0)),(V.i IntKind.i64 (Int.ofNat 0)),(V.s 0 0),(V.s 0 0),(V.i IntKind.i64 (Int.ofNat 0))])),(wB 3 (AA (tm 20))),(CO.mk G.none D.none Bool.true (CR.mk (Ae 5 (tm 4) (tm 22))))]) Ys)
abbrev dT:CC:=(CC.block 1 WC)
abbrev WK:CC:=(CC.region [(wB 40 (AM BB (tm 18) (oN 1))),(wB 18 (AA (tm 40)))])
abbrev dZ:CC:=(CC.seq dT WK)
abbrev Yg:CC:=(CC.seq ry dZ)
abbrev qL:CC:=(CC.seq (CC.region [(wB 19 (AM Bt (tm 18) (tm 17)))]) Yg)
abbrev Xs:CC:=(CC.loop qL)
abbrev Yb:CC:=(CC.block 0 Xs)
abbrev YJ:CC:=(CC.seq (CC.region [(wB 15 (AH 1 (tm 1))),(wB 16 (AW (tm 15))),(wB 17 (BW (tm 16))),(wB 18 (AA (oN 0)))]) Yb)
abbrev Zr:CC:=(CC.seq (CC.region [(wB 41 (AH 2 (tm 1))),(wB 42 (AW (tm 41))),(wB 43 (AY 50 [(oN 0),(tm 42),(oN 1000000)])),(wB 44 (AA (tm 43))),(wG 44 true 45 (AH 3 (tm 1))),(wG 44 true 46 (AW (tm 45))),(wG 44 true 47 (AY 50 [(oN 0),(tm 46),(oN 1000000)])),(wB 48 (Ay (tm 44) (tm 47) (O.c (V.b Bool.false)))),(wB 2 (AA (tm 48)))]) CC.ret)
abbrev Zk:CC:=(CC.seq YJ Zr)
abbrev eT:CC:=(CC.seq nT Zk)
abbrev xF:CC:=(CC.seq (CC.region [(wB 1 (DR 35 (tm 0))),(wB 2 (AA (O.c (V.b Bool.false))))]) eT)
theorem xq:AV Try.prog 31=⟨49,xF,[(Rs.tmp (AR 2))]⟩:=by kernel_rfl
abbrev qq:CC:=(CC.seq (CC.region [(wB 3 (AH 0 (tm 1))),(wB 4 (AW (tm 3))),(wB 5 (AY 50 [(oN 1),(tm 4),(oN 1000000)])),(wB 6 (AA (tm 5))),(wG 6 true 7 (AH 1 (tm 1))),(wG 6 true 8 (AW (tm 7))),(wG 6 true 9 (AY 50 [(oN 0),(tm 8),(oN 1)])),(wB 10 (Ay (tm 6) (tm 9) (O.c (V.b Bool.false)))),(wB 11 (AA (tm 10))),(wG 11 true 12 (AH 2 (tm 1))),(wG 11 true 13 (AW (tm 12))),(wG 11 true 14 (AY 65 [(tm 13)])),(wB 15 (Ay (tm 11) (tm 14) (O.c (V.b Bool.false)))),(wB 16 (AA (tm 15))),(wG 16 true 17 (AH 3 (tm 1))),(wG 16 true 18 (AW (tm 17))),(wG 16 true 19 (AY 65 [(tm 18)])),(wB 20 (Ay (tm 16) (tm 19) (O.c (V.b Bool.false)))),(wB 21 (AA (tm 20))),(wG 21 true 22 (AH 2 (tm 1))),(wG 21 true 23 (AW (tm 22))),(wG 21 true 24 (AH 3 (tm 1))),(wG 21 true 25 (AW (tm 24))),(wG 21 true 26 (CX (fun a b c d=>Fi a b c d||F3 a b c d) (tm 23) (tm 25))),(wB 27 (Ay (tm 21) (tm 26) (O.c (V.b Bool.false)))),(wB 28 (AA (tm 27))),(wG 28 true 29 (AH 4 (tm 1))),(wG 28 true 30 (AW (tm 29))),(wG 28 true 31 (AM EN (tm 30) (oN 1))),(wB 32 (Ay (tm 28) (tm 31) (O.c (V.b Bool.false)))),(wB 2 (AA (tm 32)))]) CC.ret)
abbrev yi:CC:=(CC.seq (CC.region [(wB 1 (DR 57 (tm 0))),(wB 2 (AA (O.c (V.b Bool.false))))]) qq)
theorem yX:AV Try.prog 49=⟨33,yi,[(Rs.tmp (AR 2))]⟩:=by kernel_rfl
abbrev mq:CC:=(CC.seq (CC.region [(wB 7 (AA (tm 0))),(wB 8 (AA (tm 1))),(wB 9 (AM Ew (tm 7) (tm 8))),(wB 10 (AA (tm 9))),(wG 10 true 11 (AA (tm 1))),(wG 10 true 12 (AA (tm 2))),(wG 10 true 13 (AM Ew (tm 11) (tm 12))),(wB 14 (Ay (tm 10) (tm 13) (O.c (V.b Bool.false)))),(wB 6 (AA (tm 14)))]) CC.ret)
abbrev wk:CC:=(CC.seq (CC.region [(wB 6 (AA (O.c (V.b Bool.false))))]) mq)
theorem yY:AV Try.prog 50=⟨15,wk,[(Rs.tmp (AR 6))]⟩:=by kernel_rfl
abbrev lI:CC:=(CC.seq (CC.region [(wB 3 (AA (tm 0))),(wB 4 (DA (tm 3))),(wB 5 (AY 50 [(oN 1),(tm 4),(oN 13)])),(wB 2 (AA (tm 5)))]) CC.ret)
abbrev xx:CC:=(CC.seq (CC.region [(wB 2 (AA (O.c (V.b Bool.false))))]) lI)
theorem x7:AV Try.prog 65=⟨6,xx,[(Rs.tmp (AR 2))]⟩:=by kernel_rfl
abbrev rY:CC:=(CC.cond (tm 10) CC.skip (CC.exit 0))
abbrev iP:CC:=(CC.seq (CC.region [(wB 4 (AA (O.c (V.b Bool.false))))]) CC.ret)
abbrev rO:CC:=(CC.cond (tm 19) iP CC.skip)
abbrev oT:CC:=(CC.seq (CC.region [(wB 13 (AA (tm 0))),(wB 14 (Ag (tm 13))),(wB 15 (AH 0 (tm 14))),(wB 16 (AW (tm 15))),(wB 17 (OX 58 [(tm 6)])),(wB 18 (AY 57 [(tm 16),(tm 17)])),(wB 19 (Cc (tm 18)))]) rO)
abbrev jq:CC:=(CC.seq (CC.region [(wB 11 (AF 1 (tm 7) (tm 9))),(wB 12 (AW (tm 11))),(wB 6 (CB 3 [(V.i IntKind.i64 (Int.ofNat 0))])),(CO.mk G.none D.none Bool.true (CR.mk (Ae 1 (tm 6) (tm 12))))]) oT)
abbrev pf:CC:=(CC.block 1 jq)
abbrev nu:CC:=(CC.region [(wB 20 (AM BB (tm 9) (oN 1))),(wB 9 (AA (tm 20)))])
abbrev ri:CC:=(CC.seq pf nu)
abbrev l8:CC:=(CC.seq rY ri)
abbrev gf:CC:=(CC.seq (CC.region [(wB 10 (AM Bt (tm 9) (tm 8)))]) l8)
abbrev sY:CC:=(CC.loop gf)
abbrev YG:CC:=(CC.block 0 sY)
abbrev ay:CC:=(CC.seq (CC.region [(wB 7 (AA (tm 1))),(wB 8 (BW (tm 7))),(wB 9 (AA (oN 0)))]) YG)
abbrev Y3:CC:=(CC.seq (CC.region [(wB 4 (AA (O.c (V.b Bool.true))))]) CC.ret)
abbrev ab:CC:=(CC.seq ay Y3)
abbrev yP:CC:=(CC.seq (CC.region [(wB 4 (AA (O.c (V.b Bool.false))))]) ab)
theorem xa:AV Try.prog 42=⟨21,yP,[(Rs.tmp (AR 4))]⟩:=by kernel_rfl
abbrev iy:CC:=(CC.seq (CC.region [(wB 4 (AH 0 (tm 2))),(wB 5 (AW (tm 4))),(wB 6 (AW (tm 1))),(wB 7 (AM Ec (tm 5) (tm 6))),(wB 3 (AA (tm 7)))]) CC.ret)
abbrev yZ:CC:=(CC.seq (CC.region [(wB 2 (DR 57 (tm 0))),(wB 3 (AA (O.c (V.b Bool.false))))]) iy)
theorem xG:AV Try.prog 58=⟨8,yZ,[(Rs.tmp (AR 3))]⟩:=by kernel_rfl
abbrev oC:CC:=(CC.seq (CC.region [(wB 4 (AA (O.c (V.b Bool.true))))]) CC.ret)
abbrev mH:CC:=(CC.seq (CC.region [(wB 4 (AA (O.c (V.b Bool.true))))]) CC.ret)
abbrev j7:CC:=(CC.seq (CC.A7 [(uB 5 (AH 3 (tm 3))),(wB 6 (AW (tm 5))),(uB 7 (AM Dc (tm 6) (oN 0))),(uB 8 (AA (tm 7))),(uG 8 true 9 (AH 3 (tm 3))),(uG 8 true 10 (AW (tm 9))),(uG 8 true 11 (AA (tm 0))),(uG 8 true 12 (Ag (tm 11))),(uG 8 true 13 (AH 2 (tm 12))),(uG 8 true 14 (AW (tm 13))),(uG 8 true 15 (AM Bt (tm 10) (tm 14))),(uB 16 (Ay (tm 8) (tm 15) (O.c (V.b Bool.false)))),(uB 4 (AA (tm 16)))] none) CC.ret)
abbrev sK:CC:=(CC.cond (tm 34) mH j7)
abbrev nC:CC:=(CC.seq (CC.A7 [(uB 35 (AH 2 (tm 3))),(wB 36 (AW (tm 35))),(uB 37 (AM Dc (tm 36) (oN 0))),(uB 38 (AA (tm 37))),(uG 38 true 39 (AH 2 (tm 3))),(uG 38 true 40 (AW (tm 39))),(uG 38 true 41 (AA (tm 0))),(uG 38 true 42 (Ag (tm 41))),(uG 38 true 43 (AH 1 (tm 42))),(uG 38 true 44 (AW (tm 43))),(uG 38 true 45 (AM Bt (tm 40) (tm 44))),(uB 46 (Ay (tm 38) (tm 45) (O.c (V.b Bool.false)))),(uB 34 (AA (tm 46)))] none) sK)
abbrev j8:CC:=(CC.cond (tm 17) oC nC)
abbrev iu:CC:=(CC.seq (CC.A7 [(uB 18 (AH 1 (tm 3))),(wB 19 (AW (tm 18))),(uB 20 (BW (tm 19))),(uB 21 (AM Dc (tm 20) (oN 0))),(uB 22 (AA (tm 21))),(uG 22 true 23 (AH 1 (tm 3))),(uG 22 true 24 (AW (tm 23))),(uG 22 true 25 (AF 5 (tm 24) (oN 0))),(uG 22 true 26 (AH 0 (tm 25))),(uG 22 true 27 (AW (tm 26))),(uG 22 true 28 (AA (tm 0))),(uG 22 true 29 (Ag (tm 28))),(uG 22 true 30 (AH 3 (tm 29))),(uG 22 true 31 (AW (tm 30))),(uG 22 true 32 (AM Bt (tm 27) (tm 31))),(uB 33 (Ay (tm 22) (tm 32) (O.c (V.b Bool.false)))),(uB 17 (AA (tm 33)))] none) j8)
abbrev fk:CC:=(CC.block 0 iu)
abbrev xf:CC:=(CC.seq (CC.region [(wB 3 (DR 35 (tm 1))),(wB 4 (AA (O.c (V.b Bool.false))))]) fk)
theorem xu:AV Try.prog 43=⟨47,xf,[(Rs.tmp (AR 4))]⟩:=by kernel_rfl
abbrev nW:CC:=(CC.cond (tm 16) CC.skip (CC.exit 0))
abbrev qg:CC:=(CC.region [(wB 27 (AA (tm 5))),(wB 28 (AT 5 (tm 7))),(wB 29 (Ax 57 1 [(V.i IntKind.i64 (Int.ofNat 0)),(V.i IntKind.i64 (Int.ofNat 0)),(V.s 0 0),(V.s 0 0),(V.i IntKind.i64 (Int.ofNat 0))] [(Pt.mk 0 5 (tm 28))])),(wB 30 (Bn 57 5 (tm 27) (tm 29))),(wB 5 (AA (tm 30)))])
abbrev qu:CC:=(CC.seq (CC.A7 [(uB 19 (AH 2 (tm 7))),(uB 20 (AW (tm 19))),(uB 21 (AY 62 [(tm 20)])),(uB 22 (AH 3 (tm 7))),(uB 23 (AW (tm 22))),(wB 24 (AY 62 [(tm 23)])),(uB 25 (AH 2 (tm 7))),(CO.mk G.none D.none Bool.true (CR.mk (Ae 1 (tm 25) (tm 21)))),(uB 26 (AH 3 (tm 7))),(CO.mk G.none D.none Bool.true (CR.mk (Ae 1 (tm 26) (tm 24))))] (some ([2,5,7,9],[(1,[0]),(4,[0,3])]))) qg)
abbrev jg:CC:=(CC.seq (CC.region [(wB 17 (AF 5 (tm 13) (tm 15))),(wB 18 (AT 5 (tm 17))),(wB 7 (CB 57 [(V.i IntKind.i64 (Int.ofNat 0)),(V.i IntKind.i64 (Int.ofNat 0)),(V.s 0 0),(V.s 0 0),(V.i IntKind.i64 (Int.ofNat 0))])),(CO.mk G.none D.none Bool.true (CR.mk (Ae 5 (tm 7) (tm 18))))]) qu)
abbrev sT:CC:=(CC.block 1 jg)
abbrev rD:CC:=(CC.region [(wB 31 (AM BB (tm 15) (oN 1))),(wB 15 (AA (tm 31)))])
abbrev pL:CC:=(CC.seq sT rD)
abbrev ia:CC:=(CC.seq nW pL)
abbrev tD:CC:=(CC.seq (CC.region [(wB 16 (AM Bt (tm 15) (tm 14)))]) ia)
abbrev oA:CC:=(CC.loop tD)
abbrev nR:CC:=(CC.block 0 oA)
abbrev az:CC:=(CC.seq (CC.region [(wB 12 (AH 1 (tm 3))),(wB 13 (AW (tm 12))),(wB 14 (BW (tm 13))),(wB 15 (AA (oN 0)))]) nR)
abbrev aT:CC:=(CC.seq (CC.region [(wB 34 (AA (tm 5))),(wB 4 (AA (tm 34)))]) CC.ret)
abbrev cB:CC:=(CC.seq (CC.region [(wB 32 (AA (tm 5))),(wB 33 (AY 63 [(tm 32),(O.c (V.f 64 []))]))]) aT)
abbrev eY:CC:=(CC.seq az cB)
abbrev fH:CC:=(CC.seq (CC.region [(wB 8 (AA (tm 0))),(wB 9 (AY 26 [(tm 8)])),(wB 10 (OX 60 [(tm 3)])),(wB 11 (AY 59 [(tm 9),(tm 10)])),(wB 5 (AA (tm 11)))]) eY)
abbrev yN:CC:=(CC.seq (CC.region [(wB 3 (DR 35 (tm 1))),(wB 4 (AA (O.c V.l0)))]) fH)
theorem xL:AV Try.prog 44=⟨35,yN,[(Rs.tmp (AR 4))]⟩:=by kernel_rfl
abbrev qH:CC:=(CC.seq (CC.region [(wB 4 (AH 0 (tm 1))),(wB 5 (AW (tm 4))),(wB 6 (AH 0 (tm 2))),(wB 7 (AW (tm 6))),(wB 8 (AY 61 [(tm 5),(tm 7)])),(wB 3 (AA (tm 8)))]) CC.ret)
abbrev xX:CC:=(CC.seq (CC.region [(wB 2 (DR 57 (tm 0))),(wB 3 (AA (O.c (V.b Bool.false))))]) qH)
theorem xb:AV Try.prog 60=⟨9,xX,[(Rs.tmp (AR 3))]⟩:=by kernel_rfl
abbrev gX:CC:=(CC.cond (tm 8) CC.skip (CC.exit 0))
abbrev m9:CC:=(CC.seq (CC.region [(wB 2 (AA (O.c (V.b Bool.true))))]) CC.ret)
abbrev gL:CC:=(CC.cond (tm 33) m9 CC.skip)
abbrev iA:CC:=(CC.seq (CC.A7 [(uB 12 (AA (tm 3))),(uB 13 (AM Dc (tm 12) (oN 0))),(uB 14 (AA (tm 13))),(uG 14 true 15 (AA (tm 0))),(uG 14 true 16 (AA (tm 3))),(uG 14 true 17 (AM Bq (tm 16) (oN 1))),(uG 14 true 18 (AF 5 (tm 15) (tm 17))),(uG 14 true 19 (AH 1 (tm 18))),(wG 14 true 20 (AW (tm 19))),(uG 14 true 21 (AM Ec (tm 20) (oN 1))),(uB 22 (Ay (tm 14) (tm 21) (O.c (V.b Bool.false)))),(uB 23 (AA (tm 22))),(uG 23 true 24 (AH 2 (tm 4))),(uG 23 true 25 (AW (tm 24))),(uG 23 true 26 (AA (tm 0))),(uG 23 true 27 (AA (tm 3))),(uG 23 true 28 (AM Bq (tm 27) (oN 1))),(uG 23 true 29 (AF 5 (tm 26) (tm 28))),(uG 23 true 30 (AH 3 (tm 29))),(uG 23 true 31 (AW (tm 30))),(uG 23 true 32 (CX (fun a b c d=>Fi a b c d||F3 a b c d) (tm 25) (tm 31))),(uB 33 (Ay (tm 23) (tm 32) (O.c (V.b Bool.false))))] none) gL)
abbrev mn:CC:=(CC.seq (CC.region [(wB 9 (AA (tm 7))),(wB 10 (AF 5 (tm 5) (tm 7))),(wB 11 (AT 5 (tm 10))),(wB 4 (CB 57 [(V.i IntKind.i64 (Int.ofNat 0)),(V.i IntKind.i64 (Int.ofNat 0)),(V.s 0 0),(V.s 0 0),(V.i IntKind.i64 (Int.ofNat 0))])),(wB 3 (AA (tm 9))),(CO.mk G.none D.none Bool.true (CR.mk (Ae 5 (tm 4) (tm 11))))]) iA)
abbrev qe:CC:=(CC.block 1 mn)
abbrev uK:CC:=(CC.region [(wB 34 (AM BB (tm 7) (oN 1))),(wB 7 (AA (tm 34)))])
abbrev fy:CC:=(CC.seq qe uK)
abbrev ki:CC:=(CC.seq gX fy)
abbrev tG:CC:=(CC.seq (CC.region [(wB 8 (AM Bt (tm 7) (tm 6)))]) ki)
abbrev kG:CC:=(CC.loop tG)
abbrev Zd:CC:=(CC.block 0 kG)
abbrev cT:CC:=(CC.seq (CC.region [(wB 5 (AA (tm 0))),(wB 6 (BW (tm 5))),(wB 7 (AA (oN 0)))]) Zd)
abbrev Wp:CC:=(CC.seq (CC.region [(wB 2 (AA (O.c (V.b Bool.false))))]) CC.ret)
abbrev Ze:CC:=(CC.seq cT Wp)
abbrev xP:CC:=(CC.seq (CC.region [(wB 2 (AA (O.c (V.b Bool.false))))]) Ze)
theorem xm:AV Try.prog 45=⟨35,xP,[(Rs.tmp (AR 2))]⟩:=by kernel_rfl
end Go.Proofs.Ytobfgempjekjpaa
set_option maxRecDepth 1000000
namespace Go.Proofs.Ytobfgempjekjpaa
open Go Go.Ev
abbrev jI:CC:=(CC.cond (tm 14) CC.skip (CC.exit 0))
abbrev iT:CC:=(CC.seq (CC.region [(wB 12 (AA (tm 8))),(wB 13 (AA (tm 2))),(wB 14 (AM Bt (tm 12) (tm 13)))]) jI)
abbrev tR:CC:=(CC.cond (tm 34) CC.skip (CC.exit 2))
abbrev sF:CC:=(CC.seq (CC.A7 [(uB 18 (AA (tm 9))),(uB 19 (AA (tm 1))),(uB 20 (AM Dc (tm 18) (tm 19))),(uB 21 (AA (tm 20))),(uG 21 true 22 (AA (tm 3))),(uG 21 true 23 (AA (tm 0))),(uG 21 true 24 (AA (tm 9))),(uG 21 true 25 (AF 5 (tm 23) (tm 24))),(uG 21 true 26 (AT 5 (tm 25))),(uG 21 true 27 (AA (tm 0))),(uG 21 true 28 (AA (tm 9))),(uG 21 true 29 (AM Bq (tm 28) (oN 1))),(uG 21 true 30 (AF 5 (tm 27) (tm 29))),(uG 21 true 31 (AT 5 (tm 30))),(wG 21 true 32 (Bc (tm 22) [(tm 26),(tm 31)])),(uG 21 true 33 (AM Bt (tm 32) (oN 0))),(uB 34 (Ay (tm 21) (tm 33) (O.c (V.b Bool.false))))] none) tR)
abbrev re:CC:=(CC.A7 [(uB 37 (AA (tm 0))),(uB 38 (AA (tm 9))),(uB 39 (AA (tm 0))),(uB 40 (AA (tm 9))),(uB 41 (AM Bq (tm 40) (oN 1))),(uB 42 (AA (tm 0))),(uB 43 (AA (tm 9))),(uB 44 (AM Bq (tm 43) (oN 1))),(uB 45 (AF 5 (tm 42) (tm 44))),(uB 46 (AT 5 (tm 45))),(uB 47 (AA (tm 0))),(uB 48 (AA (tm 9))),(uB 49 (AF 5 (tm 47) (tm 48))),(uB 50 (AT 5 (tm 49))),(uB 51 (AF 5 (tm 37) (tm 38))),(CO.mk G.none D.none Bool.true (CR.mk (Ae 5 (tm 51) (tm 46)))),(uB 52 (AF 5 (tm 39) (tm 41))),(CO.mk G.none D.none Bool.true (CR.mk (Ae 5 (tm 52) (tm 50))))] none)
abbrev nq:CC:=(CC.block 3 re)
abbrev pw:CC:=(CC.region [(wB 35 (AA (tm 9))),(wB 36 (AM Bq (tm 35) (oN 1))),(wB 9 (AA (tm 36)))])
abbrev nM:CC:=(CC.seq nq pw)
abbrev qC:CC:=(CC.seq sF nM)
abbrev sZ:CC:=(CC.loop qC)
abbrev kH:CC:=(CC.block 2 sZ)
abbrev ao:CC:=(CC.seq (CC.region [(wB 17 (AA (tm 8))),(wB 9 (AA (tm 17)))]) kH)
abbrev Za:CC:=(CC.block 1 ao)
abbrev X1:CC:=(CC.region [(wB 15 (AA (tm 8))),(wB 16 (AM BB (tm 15) (oN 1))),(wB 8 (AA (tm 16)))])
abbrev ZN:CC:=(CC.seq Za X1)
abbrev sW:CC:=(CC.seq iT ZN)
abbrev Xh:CC:=(CC.loop sW)
abbrev Xm:CC:=(CC.block 0 Xh)
abbrev w5:CC:=(CC.seq (CC.region [(wB 10 (AA (tm 1))),(wB 11 (AM BB (tm 10) (oN 1))),(wB 8 (AA (tm 11)))]) Xm)
theorem yD:AV Try.prog 81=⟨53,w5,[]⟩:=by kernel_rfl
abbrev fa:CC:=(CC.cond (tm 18) (CC.exit 0) CC.skip)
abbrev gF:CC:=(CC.seq (CC.region [(wB 16 (AA (tm 11))),(wB 17 (AA (tm 2))),(wB 18 (AM EN (tm 16) (tm 17)))]) fa)
abbrev mV:CC:=(CC.region [(wB 41 (AA (tm 11))),(wB 42 (AM BB (tm 41) (oN 1))),(wB 11 (AA (tm 42)))])
abbrev nD:CC:=(CC.cond (tm 40) mV CC.skip)
abbrev ox:CC:=(CC.seq (CC.A7 [(uB 19 (AA (tm 11))),(uB 20 (AM BB (tm 19) (oN 1))),(uB 21 (AA (tm 2))),(uB 22 (AM Bt (tm 20) (tm 21))),(uB 23 (AA (tm 22))),(uG 23 true 24 (AA (tm 4))),(uG 23 true 25 (AA (tm 0))),(uG 23 true 26 (AA (tm 3))),(uG 23 true 27 (AA (tm 11))),(uG 23 true 28 (AM BB (tm 26) (tm 27))),(uG 23 true 29 (AF 5 (tm 25) (tm 28))),(uG 23 true 30 (AT 5 (tm 29))),(uG 23 true 31 (AA (tm 0))),(uG 23 true 32 (AA (tm 3))),(uG 23 true 33 (AA (tm 11))),(uG 23 true 34 (AM BB (tm 32) (tm 33))),(uG 23 true 35 (AM BB (tm 34) (oN 1))),(uG 23 true 36 (AF 5 (tm 31) (tm 35))),(uG 23 true 37 (AT 5 (tm 36))),(wG 23 true 38 (Bc (tm 24) [(tm 30),(tm 37)])),(uG 23 true 39 (AM Bt (tm 38) (oN 0))),(uB 40 (Ay (tm 23) (tm 39) (O.c (V.b Bool.false))))] none) nD)
abbrev sf:CC:=(CC.cond (tm 58) CC.ret CC.skip)
abbrev jA:CC:=(CC.seq (CC.A7 [(uB 43 (AA (tm 4))),(uB 44 (AA (tm 0))),(uB 45 (AA (tm 3))),(uB 46 (AA (tm 10))),(uB 47 (AM BB (tm 45) (tm 46))),(uB 48 (AF 5 (tm 44) (tm 47))),(uB 49 (AT 5 (tm 48))),(uB 50 (AA (tm 0))),(uB 51 (AA (tm 3))),(uB 52 (AA (tm 11))),(uB 53 (AM BB (tm 51) (tm 52))),(uB 54 (AF 5 (tm 50) (tm 53))),(uB 55 (AT 5 (tm 54))),(wB 56 (Bc (tm 43) [(tm 49),(tm 55)])),(uB 57 (AM Bt (tm 56) (oN 0))),(uB 58 (Cc (tm 57)))] none) sf)
abbrev rH:CC:=(CC.region [(wB 81 (AA (tm 11))),(wB 10 (AA (tm 81)))])
abbrev pO:CC:=(CC.seq (CC.A7 [(uB 59 (AA (tm 0))),(uB 60 (AA (tm 3))),(uB 61 (AA (tm 10))),(uB 62 (AM BB (tm 60) (tm 61))),(uB 63 (AA (tm 0))),(uB 64 (AA (tm 3))),(uB 65 (AA (tm 11))),(uB 66 (AM BB (tm 64) (tm 65))),(uB 67 (AA (tm 0))),(uB 68 (AA (tm 3))),(uB 69 (AA (tm 11))),(uB 70 (AM BB (tm 68) (tm 69))),(uB 71 (AF 5 (tm 67) (tm 70))),(uB 72 (AT 5 (tm 71))),(uB 73 (AA (tm 0))),(uB 74 (AA (tm 3))),(uB 75 (AA (tm 10))),(uB 76 (AM BB (tm 74) (tm 75))),(uB 77 (AF 5 (tm 73) (tm 76))),(uB 78 (AT 5 (tm 77))),(uB 79 (AF 5 (tm 59) (tm 62))),(CO.mk G.none D.none Bool.true (CR.mk (Ae 5 (tm 79) (tm 72)))),(uB 80 (AF 5 (tm 63) (tm 66))),(CO.mk G.none D.none Bool.true (CR.mk (Ae 5 (tm 80) (tm 78))))] none) rH)
abbrev Vs:CC:=(CC.seq jA pO)
abbrev WN:CC:=(CC.seq ox Vs)
abbrev af:CC:=(CC.seq gF WN)
abbrev bw:CC:=(CC.seq (CC.region [(wB 13 (AA (tm 10))),(wB 14 (AM HB (oN 2) (tm 13))),(wB 15 (AM BB (tm 14) (oN 1))),(wB 11 (AA (tm 15)))]) af)
abbrev pY:CC:=(CC.block 1 bw)
abbrev ZY:CC:=(CC.loop pY)
abbrev bP:CC:=(CC.block 0 ZY)
abbrev x5:CC:=(CC.seq (CC.region [(wB 12 (AA (tm 1))),(wB 10 (AA (tm 12)))]) bP)
theorem yS:AV Try.prog 93=⟨82,x5,[]⟩:=by kernel_rfl
abbrev tJ:CC:=(CC.cond (tm 21) CC.skip (CC.exit 0))
abbrev sA:CC:=(CC.seq (CC.region [(wB 20 (AA (tm 11))),(wB 21 (AM EN (tm 20) (oN 0)))]) tJ)
abbrev sC:CC:=(CC.region [(wB 24 (AA (tm 0))),(wB 25 (AA (tm 11))),(wB 26 (AA (tm 10))),(wB 27 (AA (tm 8))),(wB 28 (AA (tm 3))),(wB 29 (AY 93 [(tm 24),(tm 25),(tm 26),(tm 27),(tm 28)]))])
abbrev gq:CC:=(CC.block 1 sC)
abbrev jZ:CC:=(CC.region [(wB 22 (AA (tm 11))),(wB 23 (AM Bq (tm 22) (oN 1))),(wB 11 (AA (tm 23)))])
abbrev rX:CC:=(CC.seq gq jZ)
abbrev kJ:CC:=(CC.seq sA rX)
abbrev gD:CC:=(CC.loop kJ)
abbrev pM:CC:=(CC.block 0 gD)
abbrev tq:CC:=(CC.seq (CC.region [(wB 17 (AA (tm 10))),(wB 18 (AM Bq (tm 17) (oN 1))),(wB 19 (AM KM (tm 18) (oN 2))),(wB 11 (AA (tm 19)))]) pM)
abbrev iM:CC:=(CC.cond (tm 33) CC.skip (CC.exit 2))
abbrev dh:CC:=(CC.seq (CC.region [(wB 32 (AA (tm 12))),(wB 33 (AM EN (tm 32) (oN 0)))]) iM)
abbrev Wo:CC:=(CC.region [(wB 54 (AA (tm 0))),(wB 55 (AA (tm 9))),(wB 56 (AA (tm 12))),(wB 57 (AA (tm 8))),(wB 58 (AA (tm 3))),(wB 59 (AY 93 [(tm 54),(tm 55),(tm 56),(tm 57),(tm 58)]))])
abbrev Xx:CC:=(CC.seq (CC.A7 [(uB 36 (AA (tm 0))),(uB 37 (AA (tm 8))),(uB 38 (AA (tm 0))),(uB 39 (AA (tm 8))),(uB 40 (AA (tm 12))),(uB 41 (AM BB (tm 39) (tm 40))),(uB 42 (AA (tm 0))),(uB 43 (AA (tm 8))),(uB 44 (AA (tm 12))),(uB 45 (AM BB (tm 43) (tm 44))),(uB 46 (AF 5 (tm 42) (tm 45))),(uB 47 (AT 5 (tm 46))),(uB 48 (AA (tm 0))),(uB 49 (AA (tm 8))),(uB 50 (AF 5 (tm 48) (tm 49))),(uB 51 (AT 5 (tm 50))),(uB 52 (AF 5 (tm 36) (tm 37))),(CO.mk G.none D.none Bool.true (CR.mk (Ae 5 (tm 52) (tm 47)))),(uB 53 (AF 5 (tm 38) (tm 41))),(CO.mk G.none D.none Bool.true (CR.mk (Ae 5 (tm 53) (tm 51))))] none) Wo)
abbrev cG:CC:=(CC.block 3 Xx)
abbrev YI:CC:=(CC.region [(wB 34 (AA (tm 12))),(wB 35 (AM Bq (tm 34) (oN 1))),(wB 12 (AA (tm 35)))])
abbrev YM:CC:=(CC.seq cG YI)
abbrev mL:CC:=(CC.seq dh YM)
abbrev cU:CC:=(CC.loop mL)
abbrev ak:CC:=(CC.block 2 cU)
abbrev eD:CC:=(CC.seq (CC.region [(wB 30 (AA (tm 10))),(wB 31 (AM Bq (tm 30) (oN 1))),(wB 12 (AA (tm 31)))]) ak)
abbrev ZS:CC:=(CC.seq tq eD)
abbrev aO:CC:=(CC.seq (CC.region [(wB 14 (AA (tm 2))),(wB 15 (AA (tm 1))),(wB 16 (AM Bq (tm 14) (tm 15))),(wB 10 (AA (tm 16)))]) ZS)
abbrev XW:CC:=(CC.seq (CC.region [(wB 9 (AA (oN 0)))]) aO)
abbrev xS:CC:=(CC.seq (CC.region [(wB 13 (AA (tm 1))),(wB 8 (AA (tm 13)))]) XW)
theorem xc:AV Try.prog 82=⟨60,xS,[]⟩:=by kernel_rfl
abbrev gB:CC:=(CC.seq (CC.region [(wB 26 (AA (tm 0))),(wB 27 (AA (tm 1))),(wB 28 (AA (tm 2))),(wB 29 (AA (tm 4))),(wB 30 (AY 81 [(tm 26),(tm 27),(tm 28),(tm 29)]))]) CC.ret)
abbrev qh:CC:=(CC.cond (tm 25) gB CC.skip)
abbrev oL:CC:=(CC.seq (CC.region [(wB 24 (AA (tm 12))),(wB 25 (AM Ew (tm 24) (oN 12)))]) qh)
abbrev hJ:CC:=(CC.seq (CC.region [(wB 33 (AA (tm 0))),(wB 34 (AA (tm 1))),(wB 35 (AA (tm 2))),(wB 36 (AA (tm 4))),(wB 37 (AY 82 [(tm 33),(tm 34),(tm 35),(tm 36)]))]) CC.ret)
abbrev rS:CC:=(CC.cond (tm 32) hJ CC.skip)
abbrev kO:CC:=(CC.seq (CC.region [(wB 31 (AA (tm 3))),(wB 32 (AM Ec (tm 31) (oN 0)))]) rS)
abbrev me:CC:=(CC.region [(wB 45 (AA (tm 3))),(wB 46 (AM Bq (tm 45) (oN 1))),(wB 3 (AA (tm 46)))])
abbrev jJ:CC:=(CC.seq (CC.region [(wB 40 (AA (tm 0))),(wB 41 (AA (tm 1))),(wB 42 (AA (tm 2))),(wB 43 (AA (tm 4))),(wB 44 (AY 83 [(tm 40),(tm 41),(tm 42),(tm 43)]))]) me)
abbrev jD:CC:=(CC.cond (tm 39) jJ CC.skip)
abbrev mz:CC:=(CC.seq (CC.region [(wB 38 (AA (tm 10))),(wB 39 (Cc (tm 38)))]) jD)
abbrev dC:CC:=(CC.seq (CC.region [(wB 62 (AA (tm 2))),(wB 63 (AM Bq (tm 62) (oN 1))),(wB 64 (AA (tm 13))),(wB 65 (AA (tm 1))),(wB 66 (AM Bq (tm 64) (tm 65))),(wB 67 (AM Bq (tm 63) (tm 66))),(wB 13 (AA (tm 67)))]) (CC.region [(wB 14 (AA (oN 1)))]))
abbrev Yx:CC:=(CC.seq (CC.region [(wB 57 (AA (tm 0))),(wB 58 (AA (tm 1))),(wB 59 (AA (tm 2))),(wB 60 (AA (tm 4))),(wB 61 (AY 85 [(tm 57),(tm 58),(tm 59),(tm 60)]))]) dC)
abbrev dI:CC:=(CC.cond (tm 56) Yx CC.skip)
abbrev YU:CC:=(CC.seq (CC.region [(wB 55 (AA (tm 14))),(wB 56 (AM Ec (tm 55) (oN 2)))]) dI)
abbrev XP:CC:=(CC.cond (tm 80) CC.ret CC.skip)
abbrev XS:CC:=(CC.seq (CC.region [(wB 76 (AA (tm 0))),(wB 77 (AA (tm 1))),(wB 78 (AA (tm 2))),(wB 79 (AA (tm 4))),(wB 80 (AY 86 [(tm 76),(tm 77),(tm 78),(tm 79)]))]) XP)
abbrev eC:CC:=(CC.cond (tm 75) XS CC.skip)
abbrev eG:CC:=(CC.seq (CC.region [(wB 68 (AA (tm 10))),(wB 69 (AA (tm 68))),(wG 69 true 70 (AA (tm 11))),(wB 71 (Ay (tm 69) (tm 70) (O.c (V.b Bool.false)))),(wB 72 (AA (tm 71))),(wG 72 true 73 (AA (tm 14))),(wG 72 true 74 (AM Ec (tm 73) (oN 1))),(wB 75 (Ay (tm 72) (tm 74) (O.c (V.b Bool.false))))]) eC)
abbrev eA:CC:=(CC.seq (CC.region [(wB 104 (AA (tm 15))),(wB 1 (AA (tm 104)))]) (CC.exit 1))
abbrev aN:CC:=(CC.seq (CC.region [(wB 98 (AA (tm 0))),(wB 99 (AA (tm 1))),(wB 100 (AA (tm 2))),(wB 101 (AA (tm 13))),(wB 102 (AA (tm 4))),(wB 103 (AY 87 [(tm 98),(tm 99),(tm 100),(tm 101),(tm 102)])),(wB 15 (AA (tm 103)))]) eA)
abbrev dM:CC:=(CC.cond (tm 97) aN CC.skip)
abbrev YH:CC:=(CC.seq (CC.A7 [(uB 81 (AA (tm 1))),(uB 82 (AM Dc (tm 81) (oN 0))),(uB 83 (AA (tm 82))),(uG 83 true 84 (AA (tm 4))),(uG 83 true 85 (AA (tm 0))),(uG 83 true 86 (AA (tm 1))),(uG 83 true 87 (AM Bq (tm 86) (oN 1))),(uG 83 true 88 (AF 5 (tm 85) (tm 87))),(uG 83 true 89 (AT 5 (tm 88))),(uG 83 true 90 (AA (tm 0))),(uG 83 true 91 (AA (tm 13))),(uG 83 true 92 (AF 5 (tm 90) (tm 91))),(uG 83 true 93 (AT 5 (tm 92))),(wG 83 true 94 (Bc (tm 84) [(tm 89),(tm 93)])),(uG 83 true 95 (AM Bt (tm 94) (oN 0))),(uG 83 true 96 (Cc (tm 95))),(uB 97 (Ay (tm 83) (tm 96) (O.c (V.b Bool.false))))] none) dM)
abbrev YQ:CC:=(CC.region [(wB 135 (AA (tm 16))),(wB 136 (AM BB (tm 135) (oN 1))),(wB 1 (AA (tm 136)))])
abbrev W8:CC:=(CC.seq (CC.region [(wB 129 (AA (tm 0))),(wB 130 (AA (tm 1))),(wB 131 (AA (tm 16))),(wB 132 (AA (tm 3))),(wB 133 (AA (tm 4))),(wB 134 (AY 75 [(tm 129),(tm 130),(tm 131),(tm 132),(tm 133)]))]) YQ)
abbrev fI:CC:=(CC.seq (CC.region [(wB 126 (AA (tm 18))),(wB 127 (AA (tm 20))),(wB 128 (AM EN (tm 126) (tm 127))),(wB 10 (AA (tm 128)))]) W8)
abbrev ZQ:CC:=(CC.region [(wB 147 (AA (tm 16))),(wB 2 (AA (tm 147)))])
abbrev de:CC:=(CC.seq (CC.region [(wB 140 (AA (tm 0))),(wB 141 (AA (tm 16))),(wB 142 (AM BB (tm 141) (oN 1))),(wB 143 (AA (tm 2))),(wB 144 (AA (tm 3))),(wB 145 (AA (tm 4))),(wB 146 (AY 75 [(tm 140),(tm 142),(tm 143),(tm 144),(tm 145)]))]) ZQ)
abbrev aS:CC:=(CC.seq (CC.region [(wB 137 (AA (tm 19))),(wB 138 (AA (tm 20))),(wB 139 (AM EN (tm 137) (tm 138))),(wB 10 (AA (tm 139)))]) de)
abbrev YB:CC:=(CC.cond (tm 125) fI aS)
abbrev dL:CC:=(CC.seq (CC.region [(wB 123 (AA (tm 18))),(wB 124 (AA (tm 19))),(wB 125 (AM Bt (tm 123) (tm 124)))]) YB)
abbrev YC:CC:=(CC.seq (CC.region [(wB 121 (AA (tm 12))),(wB 122 (AM KM (tm 121) (oN 8))),(wB 20 (AA (tm 122)))]) dL)
abbrev X0:CC:=(CC.seq (CC.region [(wB 115 (AA (tm 16))),(wB 116 (AA (tm 1))),(wB 117 (AM Bq (tm 115) (tm 116))),(wB 118 (AA (tm 2))),(wB 119 (AA (tm 16))),(wB 120 (AM Bq (tm 118) (tm 119))),(wB 18 (AA (tm 117))),(wB 19 (AA (tm 120)))]) YC)
abbrev Wg:CC:=(CC.seq (CC.region [(wB 114 (AA (tm 17))),(wB 11 (AA (tm 114)))]) X0)
abbrev Sy:CC:=(CC.seq (CC.region [(wB 106 (AA (tm 0))),(wB 107 (AA (tm 1))),(wB 108 (AA (tm 2))),(wB 109 (AA (tm 13))),(wB 110 (AA (tm 4))),(wB 111 (AY 88 [(tm 106),(tm 107),(tm 108),(tm 109),(tm 110)])),(wB 105 (AA (tm 111))),(wB 112 (Az 0 (tm 105))),(wB 113 (Az 1 (tm 105))),(wB 16 (AA (tm 112))),(wB 17 (AA (tm 113)))]) Wg)
abbrev TH:CC:=(CC.seq YH Sy)
abbrev Sv:CC:=(CC.seq eG TH)
abbrev br:CC:=(CC.seq YU Sv)
abbrev Sz:CC:=(CC.seq (CC.region [(wB 48 (AA (tm 0))),(wB 49 (AA (tm 1))),(wB 50 (AA (tm 2))),(wB 51 (AA (tm 4))),(wB 52 (AY 84 [(tm 48),(tm 49),(tm 50),(tm 51)])),(wB 47 (AA (tm 52))),(wB 53 (Az 0 (tm 47))),(wB 54 (Az 1 (tm 47))),(wB 13 (AA (tm 53))),(wB 14 (AA (tm 54)))]) br)
abbrev cC:CC:=(CC.seq mz Sz)
abbrev YD:CC:=(CC.seq kO cC)
abbrev Y4:CC:=(CC.seq oL YD)
abbrev Yz:CC:=(CC.seq (CC.region [(wB 21 (AA (tm 2))),(wB 22 (AA (tm 1))),(wB 23 (AM Bq (tm 21) (tm 22))),(wB 12 (AA (tm 23)))]) Y4)
abbrev ig:CC:=(CC.block 1 Yz)
abbrev dQ:CC:=(CC.loop ig)
abbrev Zz:CC:=(CC.block 0 dQ)
abbrev cx:CC:=(CC.seq (CC.region [(wB 11 (AA (O.c (V.b Bool.true))))]) Zz)
abbrev xA:CC:=(CC.seq (CC.region [(wB 10 (AA (O.c (V.b Bool.true))))]) cx)
theorem xC:AV Try.prog 75=⟨148,xA,[]⟩:=by kernel_rfl
abbrev nd:CC:=(CC.cond (tm 47) CC.skip (CC.exit 0))
abbrev qP:CC:=(CC.seq (CC.A7 [(uB 32 (AA (tm 12))),(uB 33 (AA (tm 13))),(uB 34 (AM Ew (tm 32) (tm 33))),(uB 35 (AA (tm 34))),(uG 35 true 36 (AA (tm 4))),(uG 35 true 37 (AA (tm 0))),(uG 35 true 38 (AA (tm 12))),(uG 35 true 39 (AF 5 (tm 37) (tm 38))),(uG 35 true 40 (AT 5 (tm 39))),(uG 35 true 41 (AA (tm 0))),(uG 35 true 42 (AA (tm 1))),(uG 35 true 43 (AF 5 (tm 41) (tm 42))),(uG 35 true 44 (AT 5 (tm 43))),(wG 35 true 45 (Bc (tm 36) [(tm 40),(tm 44)])),(uG 35 true 46 (AM Bt (tm 45) (oN 0))),(uB 47 (Ay (tm 35) (tm 46) (O.c (V.b Bool.false))))] none) nd)
abbrev oO:CC:=(CC.region [(wB 48 (AA (tm 12))),(wB 49 (AM BB (tm 48) (oN 1))),(wB 12 (AA (tm 49)))])
abbrev qK:CC:=(CC.block 1 oO)
abbrev jd:CC:=(CC.seq qP qK)
abbrev fZ:CC:=(CC.loop jd)
abbrev fY:CC:=(CC.block 0 fZ)
abbrev p8:CC:=(CC.cond (tm 66) CC.skip (CC.exit 2))
abbrev mg:CC:=(CC.seq (CC.A7 [(uB 50 (AA (tm 12))),(uB 51 (AA (tm 13))),(uB 52 (AM Ew (tm 50) (tm 51))),(uB 53 (AA (tm 52))),(uG 53 true 54 (AA (tm 4))),(uG 53 true 55 (AA (tm 0))),(uG 53 true 56 (AA (tm 13))),(uG 53 true 57 (AF 5 (tm 55) (tm 56))),(uG 53 true 58 (AT 5 (tm 57))),(uG 53 true 59 (AA (tm 0))),(uG 53 true 60 (AA (tm 1))),(uG 53 true 61 (AF 5 (tm 59) (tm 60))),(uG 53 true 62 (AT 5 (tm 61))),(wG 53 true 63 (Bc (tm 54) [(tm 58),(tm 62)])),(uG 53 true 64 (AM Bt (tm 63) (oN 0))),(uG 53 true 65 (Cc (tm 64))),(uB 66 (Ay (tm 53) (tm 65) (O.c (V.b Bool.false))))] none) p8)
abbrev qn:CC:=(CC.region [(wB 67 (AA (tm 13))),(wB 68 (AM Bq (tm 67) (oN 1))),(wB 13 (AA (tm 68)))])
abbrev fT:CC:=(CC.block 3 qn)
abbrev qx:CC:=(CC.seq mg fT)
abbrev XZ:CC:=(CC.loop qx)
abbrev YR:CC:=(CC.block 2 XZ)
abbrev Yo:CC:=(CC.seq (CC.region [(wB 86 (AA (tm 13))),(wB 10 (AA (tm 86))),(wB 11 (AA (O.c (V.b Bool.true))))]) CC.ret)
abbrev YO:CC:=(CC.seq (CC.A7 [(uB 72 (AA (tm 0))),(uB 73 (AA (tm 13))),(uB 74 (AA (tm 0))),(uB 75 (AA (tm 1))),(uB 76 (AA (tm 0))),(uB 77 (AA (tm 1))),(uB 78 (AF 5 (tm 76) (tm 77))),(uB 79 (AT 5 (tm 78))),(uB 80 (AA (tm 0))),(uB 81 (AA (tm 13))),(uB 82 (AF 5 (tm 80) (tm 81))),(uB 83 (AT 5 (tm 82))),(uB 84 (AF 5 (tm 72) (tm 73))),(CO.mk G.none D.none Bool.true (CR.mk (Ae 5 (tm 84) (tm 79)))),(uB 85 (AF 5 (tm 74) (tm 75))),(CO.mk G.none D.none Bool.true (CR.mk (Ae 5 (tm 85) (tm 83))))] none) Yo)
abbrev eR:CC:=(CC.cond (tm 71) YO CC.skip)
abbrev bz:CC:=(CC.seq (CC.region [(wB 69 (AA (tm 12))),(wB 70 (AA (tm 13))),(wB 71 (AM Dc (tm 69) (tm 70)))]) eR)
abbrev db:CC:=(CC.cond (tm 120) CC.skip (CC.exit 6))
abbrev X9:CC:=(CC.seq (CC.A7 [(uB 105 (AA (tm 12))),(uB 106 (AA (tm 13))),(uB 107 (AM Ew (tm 105) (tm 106))),(uB 108 (AA (tm 107))),(uG 108 true 109 (AA (tm 4))),(uG 108 true 110 (AA (tm 0))),(uG 108 true 111 (AA (tm 12))),(uG 108 true 112 (AF 5 (tm 110) (tm 111))),(uG 108 true 113 (AT 5 (tm 112))),(uG 108 true 114 (AA (tm 0))),(uG 108 true 115 (AA (tm 1))),(uG 108 true 116 (AF 5 (tm 114) (tm 115))),(uG 108 true 117 (AT 5 (tm 116))),(wG 108 true 118 (Bc (tm 109) [(tm 113),(tm 117)])),(uG 108 true 119 (AM Bt (tm 118) (oN 0))),(uB 120 (Ay (tm 108) (tm 119) (O.c (V.b Bool.false))))] none) db)
abbrev Z1:CC:=(CC.region [(wB 121 (AA (tm 12))),(wB 122 (AM BB (tm 121) (oN 1))),(wB 12 (AA (tm 122)))])
abbrev aJ:CC:=(CC.block 7 Z1)
abbrev np:CC:=(CC.seq X9 aJ)
abbrev Ym:CC:=(CC.loop np)
abbrev av:CC:=(CC.block 6 Ym)
abbrev ZR:CC:=(CC.cond (tm 139) CC.skip (CC.exit 8))
abbrev XR:CC:=(CC.seq (CC.A7 [(uB 123 (AA (tm 12))),(uB 124 (AA (tm 13))),(uB 125 (AM Ew (tm 123) (tm 124))),(uB 126 (AA (tm 125))),(uG 126 true 127 (AA (tm 4))),(uG 126 true 128 (AA (tm 0))),(uG 126 true 129 (AA (tm 13))),(uG 126 true 130 (AF 5 (tm 128) (tm 129))),(uG 126 true 131 (AT 5 (tm 130))),(uG 126 true 132 (AA (tm 0))),(uG 126 true 133 (AA (tm 1))),(uG 126 true 134 (AF 5 (tm 132) (tm 133))),(uG 126 true 135 (AT 5 (tm 134))),(wG 126 true 136 (Bc (tm 127) [(tm 131),(tm 135)])),(uG 126 true 137 (AM Bt (tm 136) (oN 0))),(uG 126 true 138 (Cc (tm 137))),(uB 139 (Ay (tm 126) (tm 138) (O.c (V.b Bool.false))))] none) ZR)
abbrev Xb:CC:=(CC.region [(wB 140 (AA (tm 13))),(wB 141 (AM Bq (tm 140) (oN 1))),(wB 13 (AA (tm 141)))])
abbrev dO:CC:=(CC.block 9 Xb)
abbrev fX:CC:=(CC.seq XR dO)
abbrev WJ:CC:=(CC.loop fX)
abbrev XN:CC:=(CC.block 8 WJ)
abbrev ZU:CC:=(CC.cond (tm 144) (CC.exit 4) CC.skip)
abbrev XC:CC:=(CC.seq (CC.region [(wB 142 (AA (tm 12))),(wB 143 (AA (tm 13))),(wB 144 (AM Dc (tm 142) (tm 143)))]) ZU)
abbrev Xv:CC:=(CC.region [(wB 161 (AA (tm 13))),(wB 162 (AM Bq (tm 161) (oN 1))),(wB 13 (AA (tm 162)))])
abbrev eW:CC:=(CC.seq (CC.region [(wB 159 (AA (tm 12))),(wB 160 (AM BB (tm 159) (oN 1))),(wB 12 (AA (tm 160)))]) Xv)
abbrev Xi:CC:=(CC.seq (CC.A7 [(uB 145 (AA (tm 0))),(uB 146 (AA (tm 12))),(uB 147 (AA (tm 0))),(uB 148 (AA (tm 13))),(uB 149 (AA (tm 0))),(uB 150 (AA (tm 13))),(uB 151 (AF 5 (tm 149) (tm 150))),(uB 152 (AT 5 (tm 151))),(uB 153 (AA (tm 0))),(uB 154 (AA (tm 12))),(uB 155 (AF 5 (tm 153) (tm 154))),(uB 156 (AT 5 (tm 155))),(uB 157 (AF 5 (tm 145) (tm 146))),(CO.mk G.none D.none Bool.true (CR.mk (Ae 5 (tm 157) (tm 152)))),(uB 158 (AF 5 (tm 147) (tm 148))),(CO.mk G.none D.none Bool.true (CR.mk (Ae 5 (tm 158) (tm 156))))] none) eW)
abbrev YA:CC:=(CC.seq XC Xi)
abbrev Xj:CC:=(CC.seq XN YA)
abbrev Wc:CC:=(CC.seq av Xj)
abbrev lT:CC:=(CC.block 5 Wc)
abbrev X4:CC:=(CC.loop lT)
abbrev cH:CC:=(CC.block 4 X4)
abbrev YK:CC:=(CC.seq (CC.region [(wB 177 (AA (tm 13))),(wB 10 (AA (tm 177))),(wB 11 (AA (O.c (V.b Bool.false))))]) CC.ret)
abbrev dP:CC:=(CC.seq (CC.A7 [(uB 163 (AA (tm 0))),(uB 164 (AA (tm 13))),(uB 165 (AA (tm 0))),(uB 166 (AA (tm 1))),(uB 167 (AA (tm 0))),(uB 168 (AA (tm 1))),(uB 169 (AF 5 (tm 167) (tm 168))),(uB 170 (AT 5 (tm 169))),(uB 171 (AA (tm 0))),(uB 172 (AA (tm 13))),(uB 173 (AF 5 (tm 171) (tm 172))),(uB 174 (AT 5 (tm 173))),(uB 175 (AF 5 (tm 163) (tm 164))),(CO.mk G.none D.none Bool.true (CR.mk (Ae 5 (tm 175) (tm 170)))),(uB 176 (AF 5 (tm 165) (tm 166))),(CO.mk G.none D.none Bool.true (CR.mk (Ae 5 (tm 176) (tm 174))))] none) YK)
abbrev dH:CC:=(CC.seq cH dP)
abbrev bQ:CC:=(CC.seq (CC.region [(wB 103 (AA (tm 13))),(wB 104 (AM Bq (tm 103) (oN 1))),(wB 13 (AA (tm 104)))]) dH)
abbrev aP:CC:=(CC.seq (CC.region [(wB 101 (AA (tm 12))),(wB 102 (AM BB (tm 101) (oN 1))),(wB 12 (AA (tm 102)))]) bQ)
abbrev bn:CC:=(CC.seq (CC.A7 [(uB 87 (AA (tm 0))),(uB 88 (AA (tm 12))),(uB 89 (AA (tm 0))),(uB 90 (AA (tm 13))),(uB 91 (AA (tm 0))),(uB 92 (AA (tm 13))),(uB 93 (AF 5 (tm 91) (tm 92))),(uB 94 (AT 5 (tm 93))),(uB 95 (AA (tm 0))),(uB 96 (AA (tm 12))),(uB 97 (AF 5 (tm 95) (tm 96))),(uB 98 (AT 5 (tm 97))),(uB 99 (AF 5 (tm 87) (tm 88))),(CO.mk G.none D.none Bool.true (CR.mk (Ae 5 (tm 99) (tm 94)))),(uB 100 (AF 5 (tm 89) (tm 90))),(CO.mk G.none D.none Bool.true (CR.mk (Ae 5 (tm 100) (tm 98))))] none) aP)
abbrev Z4:CC:=(CC.seq bz bn)
abbrev Wv:CC:=(CC.seq YR Z4)
abbrev bc:CC:=(CC.seq fY Wv)
abbrev XK:CC:=(CC.seq (CC.region [(wB 28 (AA (tm 1))),(wB 29 (AM BB (tm 28) (oN 1))),(wB 30 (AA (tm 2))),(wB 31 (AM Bq (tm 30) (oN 1))),(wB 12 (AA (tm 29))),(wB 13 (AA (tm 31)))]) bc)
abbrev bt:CC:=(CC.seq (CC.A7 [(uB 14 (AA (tm 0))),(uB 15 (AA (tm 1))),(uB 16 (AA (tm 0))),(uB 17 (AA (tm 3))),(uB 18 (AA (tm 0))),(uB 19 (AA (tm 3))),(uB 20 (AF 5 (tm 18) (tm 19))),(uB 21 (AT 5 (tm 20))),(uB 22 (AA (tm 0))),(uB 23 (AA (tm 1))),(uB 24 (AF 5 (tm 22) (tm 23))),(uB 25 (AT 5 (tm 24))),(uB 26 (AF 5 (tm 14) (tm 15))),(CO.mk G.none D.none Bool.true (CR.mk (Ae 5 (tm 26) (tm 21)))),(uB 27 (AF 5 (tm 16) (tm 17))),(CO.mk G.none D.none Bool.true (CR.mk (Ae 5 (tm 27) (tm 25))))] none) XK)
abbrev xH:CC:=(CC.seq (CC.region [(wB 10 (AA (oN 0))),(wB 11 (AA (O.c (V.b Bool.false))))]) bt)
theorem yH:AV Try.prog 88=⟨178,xH,[(Rs.tmp (AR 10)),(Rs.tmp (AR 11))]⟩:=by kernel_rfl
abbrev pt:CC:=(CC.cond (tm 47) CC.skip (CC.exit 2))
abbrev qX:CC:=(CC.seq (CC.A7 [(uB 31 (AA (tm 11))),(uB 32 (AA (tm 12))),(uB 33 (AM Ew (tm 31) (tm 32))),(uB 34 (AA (tm 33))),(uG 34 true 35 (AA (tm 4))),(uG 34 true 36 (AA (tm 0))),(uG 34 true 37 (AA (tm 1))),(uG 34 true 38 (AF 5 (tm 36) (tm 37))),(uG 34 true 39 (AT 5 (tm 38))),(uG 34 true 40 (AA (tm 0))),(uG 34 true 41 (AA (tm 11))),(uG 34 true 42 (AF 5 (tm 40) (tm 41))),(uG 34 true 43 (AT 5 (tm 42))),(wG 34 true 44 (Bc (tm 35) [(tm 39),(tm 43)])),(uG 34 true 45 (AM Bt (tm 44) (oN 0))),(uG 34 true 46 (Cc (tm 45))),(uB 47 (Ay (tm 34) (tm 46) (O.c (V.b Bool.false))))] none) pt)
abbrev uF:CC:=(CC.region [(wB 48 (AA (tm 11))),(wB 49 (AM BB (tm 48) (oN 1))),(wB 11 (AA (tm 49)))])
abbrev hO:CC:=(CC.block 3 uF)
abbrev sE:CC:=(CC.seq qX hO)
abbrev oZ:CC:=(CC.loop sE)
abbrev mQ:CC:=(CC.block 2 oZ)
abbrev j9:CC:=(CC.cond (tm 65) CC.skip (CC.exit 4))
abbrev nH:CC:=(CC.seq (CC.A7 [(uB 50 (AA (tm 11))),(uB 51 (AA (tm 12))),(uB 52 (AM Ew (tm 50) (tm 51))),(uB 53 (AA (tm 52))),(uG 53 true 54 (AA (tm 4))),(uG 53 true 55 (AA (tm 0))),(uG 53 true 56 (AA (tm 1))),(uG 53 true 57 (AF 5 (tm 55) (tm 56))),(uG 53 true 58 (AT 5 (tm 57))),(uG 53 true 59 (AA (tm 0))),(uG 53 true 60 (AA (tm 12))),(uG 53 true 61 (AF 5 (tm 59) (tm 60))),(uG 53 true 62 (AT 5 (tm 61))),(wG 53 true 63 (Bc (tm 54) [(tm 58),(tm 62)])),(uG 53 true 64 (AM Bt (tm 63) (oN 0))),(uB 65 (Ay (tm 53) (tm 64) (O.c (V.b Bool.false))))] none) j9)
abbrev iv:CC:=(CC.region [(wB 66 (AA (tm 12))),(wB 67 (AM Bq (tm 66) (oN 1))),(wB 12 (AA (tm 67)))])
abbrev rJ:CC:=(CC.block 5 iv)
abbrev mJ:CC:=(CC.seq nH rJ)
abbrev XF:CC:=(CC.loop mJ)
abbrev ZB:CC:=(CC.block 4 XF)
abbrev bK:CC:=(CC.cond (tm 70) (CC.exit 0) CC.skip)
abbrev Zj:CC:=(CC.seq (CC.region [(wB 68 (AA (tm 11))),(wB 69 (AA (tm 12))),(wB 70 (AM Dc (tm 68) (tm 69)))]) bK)
abbrev Wy:CC:=(CC.region [(wB 87 (AA (tm 12))),(wB 88 (AM Bq (tm 87) (oN 1))),(wB 12 (AA (tm 88)))])
abbrev Y5:CC:=(CC.seq (CC.region [(wB 85 (AA (tm 11))),(wB 86 (AM BB (tm 85) (oN 1))),(wB 11 (AA (tm 86)))]) Wy)
abbrev Y1:CC:=(CC.seq (CC.A7 [(uB 71 (AA (tm 0))),(uB 72 (AA (tm 11))),(uB 73 (AA (tm 0))),(uB 74 (AA (tm 12))),(uB 75 (AA (tm 0))),(uB 76 (AA (tm 12))),(uB 77 (AF 5 (tm 75) (tm 76))),(uB 78 (AT 5 (tm 77))),(uB 79 (AA (tm 0))),(uB 80 (AA (tm 11))),(uB 81 (AF 5 (tm 79) (tm 80))),(uB 82 (AT 5 (tm 81))),(uB 83 (AF 5 (tm 71) (tm 72))),(CO.mk G.none D.none Bool.true (CR.mk (Ae 5 (tm 83) (tm 78)))),(uB 84 (AF 5 (tm 73) (tm 74))),(CO.mk G.none D.none Bool.true (CR.mk (Ae 5 (tm 84) (tm 82))))] none) Y5)
abbrev WT:CC:=(CC.seq Zj Y1)
abbrev aZ:CC:=(CC.seq ZB WT)
abbrev eP:CC:=(CC.seq mQ aZ)
abbrev pe:CC:=(CC.block 1 eP)
abbrev ee:CC:=(CC.loop pe)
abbrev Yn:CC:=(CC.block 0 ee)
abbrev Yj:CC:=(CC.seq (CC.region [(wB 89 (AA (tm 11))),(wB 10 (AA (tm 89)))]) CC.ret)
abbrev cM:CC:=(CC.seq Yn Yj)
abbrev Wx:CC:=(CC.seq (CC.region [(wB 27 (AA (tm 1))),(wB 28 (AM BB (tm 27) (oN 1))),(wB 29 (AA (tm 2))),(wB 30 (AM Bq (tm 29) (oN 1))),(wB 11 (AA (tm 28))),(wB 12 (AA (tm 30)))]) cM)
abbrev bj:CC:=(CC.seq (CC.A7 [(uB 13 (AA (tm 0))),(uB 14 (AA (tm 1))),(uB 15 (AA (tm 0))),(uB 16 (AA (tm 3))),(uB 17 (AA (tm 0))),(uB 18 (AA (tm 3))),(uB 19 (AF 5 (tm 17) (tm 18))),(uB 20 (AT 5 (tm 19))),(uB 21 (AA (tm 0))),(uB 22 (AA (tm 1))),(uB 23 (AF 5 (tm 21) (tm 22))),(uB 24 (AT 5 (tm 23))),(uB 25 (AF 5 (tm 13) (tm 14))),(CO.mk G.none D.none Bool.true (CR.mk (Ae 5 (tm 25) (tm 20)))),(uB 26 (AF 5 (tm 15) (tm 16))),(CO.mk G.none D.none Bool.true (CR.mk (Ae 5 (tm 26) (tm 24))))] none) Wx)
abbrev yB:CC:=(CC.seq (CC.region [(wB 10 (AA (oN 0)))]) bj)
theorem xB:AV Try.prog 87=⟨90,yB,[(Rs.tmp (AR 10))]⟩:=by kernel_rfl
abbrev sQ:CC:=(CC.cond (tm 16) CC.skip (CC.exit 0))
abbrev jz:CC:=(CC.seq (CC.region [(wB 15 (AA (tm 10))),(wB 16 (AM Bt (tm 15) (oN 5)))]) sQ)
abbrev tO:CC:=(CC.cond (tm 36) CC.skip (CC.exit 2))
abbrev nw:CC:=(CC.seq (CC.A7 [(uB 19 (AA (tm 9))),(uB 20 (AA (tm 2))),(uB 21 (AM Bt (tm 19) (tm 20))),(uB 22 (AA (tm 21))),(uG 22 true 23 (AA (tm 3))),(uG 22 true 24 (AA (tm 0))),(uG 22 true 25 (AA (tm 9))),(uG 22 true 26 (AF 5 (tm 24) (tm 25))),(uG 22 true 27 (AT 5 (tm 26))),(uG 22 true 28 (AA (tm 0))),(uG 22 true 29 (AA (tm 9))),(uG 22 true 30 (AM Bq (tm 29) (oN 1))),(uG 22 true 31 (AF 5 (tm 28) (tm 30))),(uG 22 true 32 (AT 5 (tm 31))),(wG 22 true 33 (Bc (tm 23) [(tm 27),(tm 32)])),(uG 22 true 34 (AM Bt (tm 33) (oN 0))),(uG 22 true 35 (Cc (tm 34))),(uB 36 (Ay (tm 22) (tm 35) (O.c (V.b Bool.false))))] none) tO)
abbrev te:CC:=(CC.region [(wB 37 (AA (tm 9))),(wB 38 (AM BB (tm 37) (oN 1))),(wB 9 (AA (tm 38)))])
abbrev k9:CC:=(CC.block 3 te)
abbrev tn:CC:=(CC.seq nw k9)
abbrev gz:CC:=(CC.loop tn)
abbrev sB:CC:=(CC.block 2 gz)
abbrev tF:CC:=(CC.seq (CC.region [(wB 8 (AA (O.c (V.b Bool.true))))]) CC.ret)
abbrev oR:CC:=(CC.cond (tm 41) tF CC.skip)
abbrev cE:CC:=(CC.seq (CC.region [(wB 39 (AA (tm 9))),(wB 40 (AA (tm 2))),(wB 41 (AM Ec (tm 39) (tm 40)))]) oR)
abbrev ZA:CC:=(CC.seq (CC.region [(wB 8 (AA (O.c (V.b Bool.false))))]) CC.ret)
abbrev aj:CC:=(CC.cond (tm 45) ZA CC.skip)
abbrev fK:CC:=(CC.seq (CC.region [(wB 42 (AA (tm 2))),(wB 43 (AA (tm 1))),(wB 44 (AM Bq (tm 42) (tm 43))),(wB 45 (AM Bt (tm 44) (oN 50)))]) aj)
abbrev YZ:CC:=(CC.cond (tm 69) CC.skip (CC.exit 4))
abbrev bT:CC:=(CC.seq (CC.region [(wB 68 (AA (tm 11))),(wB 69 (AM EN (tm 68) (oN 1)))]) YZ)
abbrev XX:CC:=(CC.cond (tm 84) (CC.exit 4) CC.skip)
abbrev eE:CC:=(CC.seq (CC.A7 [(uB 72 (AA (tm 3))),(uB 73 (AA (tm 0))),(uB 74 (AA (tm 11))),(uB 75 (AF 5 (tm 73) (tm 74))),(uB 76 (AT 5 (tm 75))),(uB 77 (AA (tm 0))),(uB 78 (AA (tm 11))),(uB 79 (AM Bq (tm 78) (oN 1))),(uB 80 (AF 5 (tm 77) (tm 79))),(uB 81 (AT 5 (tm 80))),(wB 82 (Bc (tm 72) [(tm 76),(tm 81)])),(uB 83 (AM Bt (tm 82) (oN 0))),(uB 84 (Cc (tm 83)))] none) XX)
abbrev aB:CC:=(CC.A7 [(uB 85 (AA (tm 0))),(uB 86 (AA (tm 11))),(uB 87 (AA (tm 0))),(uB 88 (AA (tm 11))),(uB 89 (AM Bq (tm 88) (oN 1))),(uB 90 (AA (tm 0))),(uB 91 (AA (tm 11))),(uB 92 (AM Bq (tm 91) (oN 1))),(uB 93 (AF 5 (tm 90) (tm 92))),(uB 94 (AT 5 (tm 93))),(uB 95 (AA (tm 0))),(uB 96 (AA (tm 11))),(uB 97 (AF 5 (tm 95) (tm 96))),(uB 98 (AT 5 (tm 97))),(uB 99 (AF 5 (tm 85) (tm 86))),(CO.mk G.none D.none Bool.true (CR.mk (Ae 5 (tm 99) (tm 94)))),(uB 100 (AF 5 (tm 87) (tm 89))),(CO.mk G.none D.none Bool.true (CR.mk (Ae 5 (tm 100) (tm 98))))] none)
abbrev Wj:CC:=(CC.seq eE aB)
abbrev Ye:CC:=(CC.block 5 Wj)
abbrev cD:CC:=(CC.region [(wB 70 (AA (tm 11))),(wB 71 (AM Bq (tm 70) (oN 1))),(wB 11 (AA (tm 71)))])
abbrev aa:CC:=(CC.seq Ye cD)
abbrev kW:CC:=(CC.seq bT aa)
abbrev bq:CC:=(CC.loop kW)
abbrev ar:CC:=(CC.block 4 bq)
abbrev XB:CC:=(CC.seq (CC.region [(wB 66 (AA (tm 9))),(wB 67 (AM Bq (tm 66) (oN 1))),(wB 11 (AA (tm 67)))]) ar)
abbrev WU:CC:=(CC.cond (tm 65) XB CC.skip)
abbrev ah:CC:=(CC.seq (CC.region [(wB 62 (AA (tm 9))),(wB 63 (AA (tm 1))),(wB 64 (AM Bq (tm 62) (tm 63))),(wB 65 (AM EN (tm 64) (oN 2)))]) WU)
abbrev YV:CC:=(CC.cond (tm 109) CC.skip (CC.exit 6))
abbrev dY:CC:=(CC.seq (CC.region [(wB 107 (AA (tm 12))),(wB 108 (AA (tm 2))),(wB 109 (AM Bt (tm 107) (tm 108)))]) YV)
abbrev Wl:CC:=(CC.cond (tm 124) (CC.exit 6) CC.skip)
abbrev ZD:CC:=(CC.seq (CC.A7 [(uB 112 (AA (tm 3))),(uB 113 (AA (tm 0))),(uB 114 (AA (tm 12))),(uB 115 (AF 5 (tm 113) (tm 114))),(uB 116 (AT 5 (tm 115))),(uB 117 (AA (tm 0))),(uB 118 (AA (tm 12))),(uB 119 (AM Bq (tm 118) (oN 1))),(uB 120 (AF 5 (tm 117) (tm 119))),(uB 121 (AT 5 (tm 120))),(wB 122 (Bc (tm 112) [(tm 116),(tm 121)])),(uB 123 (AM Bt (tm 122) (oN 0))),(uB 124 (Cc (tm 123)))] none) Wl)
abbrev X5:CC:=(CC.A7 [(uB 125 (AA (tm 0))),(uB 126 (AA (tm 12))),(uB 127 (AA (tm 0))),(uB 128 (AA (tm 12))),(uB 129 (AM Bq (tm 128) (oN 1))),(uB 130 (AA (tm 0))),(uB 131 (AA (tm 12))),(uB 132 (AM Bq (tm 131) (oN 1))),(uB 133 (AF 5 (tm 130) (tm 132))),(uB 134 (AT 5 (tm 133))),(uB 135 (AA (tm 0))),(uB 136 (AA (tm 12))),(uB 137 (AF 5 (tm 135) (tm 136))),(uB 138 (AT 5 (tm 137))),(uB 139 (AF 5 (tm 125) (tm 126))),(CO.mk G.none D.none Bool.true (CR.mk (Ae 5 (tm 139) (tm 134)))),(uB 140 (AF 5 (tm 127) (tm 129))),(CO.mk G.none D.none Bool.true (CR.mk (Ae 5 (tm 140) (tm 138))))] none)
abbrev Z8:CC:=(CC.seq ZD X5)
abbrev WR:CC:=(CC.block 7 Z8)
abbrev eg:CC:=(CC.region [(wB 110 (AA (tm 12))),(wB 111 (AM BB (tm 110) (oN 1))),(wB 12 (AA (tm 111)))])
abbrev ew:CC:=(CC.seq WR eg)
abbrev iq:CC:=(CC.seq dY ew)
abbrev Wq:CC:=(CC.loop iq)
abbrev aA:CC:=(CC.block 6 Wq)
abbrev bl:CC:=(CC.seq (CC.region [(wB 105 (AA (tm 9))),(wB 106 (AM BB (tm 105) (oN 1))),(wB 12 (AA (tm 106)))]) aA)
abbrev bN:CC:=(CC.cond (tm 104) bl CC.skip)
abbrev Rh:CC:=(CC.seq (CC.region [(wB 101 (AA (tm 2))),(wB 102 (AA (tm 9))),(wB 103 (AM Bq (tm 101) (tm 102))),(wB 104 (AM EN (tm 103) (oN 2)))]) bN)
abbrev Y2:CC:=(CC.seq ah Rh)
abbrev dk:CC:=(CC.seq (CC.A7 [(uB 46 (AA (tm 0))),(uB 47 (AA (tm 9))),(uB 48 (AA (tm 0))),(uB 49 (AA (tm 9))),(uB 50 (AM Bq (tm 49) (oN 1))),(uB 51 (AA (tm 0))),(uB 52 (AA (tm 9))),(uB 53 (AM Bq (tm 52) (oN 1))),(uB 54 (AF 5 (tm 51) (tm 53))),(uB 55 (AT 5 (tm 54))),(uB 56 (AA (tm 0))),(uB 57 (AA (tm 9))),(uB 58 (AF 5 (tm 56) (tm 57))),(uB 59 (AT 5 (tm 58))),(uB 60 (AF 5 (tm 46) (tm 47))),(CO.mk G.none D.none Bool.true (CR.mk (Ae 5 (tm 60) (tm 55)))),(uB 61 (AF 5 (tm 48) (tm 50))),(CO.mk G.none D.none Bool.true (CR.mk (Ae 5 (tm 61) (tm 59))))] none) Y2)
abbrev Xt:CC:=(CC.seq fK dk)
abbrev eh:CC:=(CC.seq cE Xt)
abbrev dE:CC:=(CC.seq sB eh)
abbrev YS:CC:=(CC.block 1 dE)
abbrev ZI:CC:=(CC.region [(wB 17 (AA (tm 10))),(wB 18 (AM BB (tm 17) (oN 1))),(wB 10 (AA (tm 18)))])
abbrev bR:CC:=(CC.seq YS ZI)
abbrev pg:CC:=(CC.seq jz bR)
abbrev Wm:CC:=(CC.loop pg)
abbrev X7:CC:=(CC.block 0 Wm)
abbrev fD:CC:=(CC.seq (CC.region [(wB 10 (AA (oN 0)))]) X7)
abbrev bE:CC:=(CC.seq (CC.region [(wB 8 (AA (O.c (V.b Bool.false))))]) CC.ret)
abbrev ZJ:CC:=(CC.seq fD bE)
abbrev XD:CC:=(CC.seq (CC.region [(wB 13 (AA (tm 1))),(wB 14 (AM BB (tm 13) (oN 1))),(wB 9 (AA (tm 14)))]) ZJ)
abbrev yq:CC:=(CC.seq (CC.region [(wB 8 (AA (O.c (V.b Bool.false))))]) XD)
theorem xn:AV Try.prog 86=⟨141,yq,[(Rs.tmp (AR 8))]⟩:=by kernel_rfl
abbrev oY:CC:=(CC.cond (tm 35) CC.skip (CC.exit 0))
abbrev fm:CC:=(CC.seq (CC.region [(wB 28 (AA (tm 11))),(wB 29 (AA (tm 1))),(wB 30 (AA (tm 8))),(wB 31 (AM KM (tm 30) (oN 4))),(wB 32 (AM HB (tm 31) (oN 2))),(wB 33 (AM BB (tm 29) (tm 32))),(wB 34 (AM BB (tm 33) (oN 1))),(wB 35 (AM Ew (tm 28) (tm 34)))]) oY)
abbrev fQ:CC:=(CC.region [(wB 46 (AA (tm 12))),(wB 47 (AA (tm 8))),(wB 48 (AM Bq (tm 46) (tm 47))),(wB 12 (AA (tm 48)))])
abbrev rW:CC:=(CC.cond (tm 45) fQ CC.skip)
abbrev mo:CC:=(CC.seq (CC.region [(wB 43 (AA (tm 12))),(wB 44 (AA (tm 8))),(wB 45 (AM EN (tm 43) (tm 44)))]) rW)
abbrev gE:CC:=(CC.A7 [(uB 49 (AA (tm 0))),(uB 50 (AA (tm 11))),(uB 51 (AA (tm 0))),(uB 52 (AA (tm 1))),(uB 53 (AA (tm 12))),(uB 54 (AM BB (tm 52) (tm 53))),(uB 55 (AA (tm 0))),(uB 56 (AA (tm 1))),(uB 57 (AA (tm 12))),(uB 58 (AM BB (tm 56) (tm 57))),(uB 59 (AF 5 (tm 55) (tm 58))),(uB 60 (AT 5 (tm 59))),(uB 61 (AA (tm 0))),(uB 62 (AA (tm 11))),(uB 63 (AF 5 (tm 61) (tm 62))),(uB 64 (AT 5 (tm 63))),(uB 65 (AF 5 (tm 49) (tm 50))),(CO.mk G.none D.none Bool.true (CR.mk (Ae 5 (tm 65) (tm 60)))),(uB 66 (AF 5 (tm 51) (tm 54))),(CO.mk G.none D.none Bool.true (CR.mk (Ae 5 (tm 66) (tm 64))))] none)
abbrev qU:CC:=(CC.seq mo gE)
abbrev jX:CC:=(CC.seq (CC.region [(wB 38 (AY 95 [(tm 9)])),(wB 39 (AA (tm 10))),(wB 40 (AM Bq (tm 39) (O.c (V.i IntKind.u64 (Int.ofNat 1))))),(wB 41 (AM NF (tm 38) (tm 40))),(wB 42 (Bd IntKind.i64 (tm 41))),(wB 12 (AA (tm 42)))]) qU)
abbrev kC:CC:=(CC.block 1 jX)
abbrev mN:CC:=(CC.region [(wB 36 (AA (tm 11))),(wB 37 (AM BB (tm 36) (oN 1))),(wB 11 (AA (tm 37)))])
abbrev bk:CC:=(CC.seq kC mN)
abbrev tQ:CC:=(CC.seq fm bk)
abbrev cP:CC:=(CC.loop tQ)
abbrev Xa:CC:=(CC.block 0 cP)
abbrev aU:CC:=(CC.seq (CC.region [(wB 22 (AA (tm 1))),(wB 23 (AA (tm 8))),(wB 24 (AM KM (tm 23) (oN 4))),(wB 25 (AM HB (tm 24) (oN 2))),(wB 26 (AM BB (tm 22) (tm 25))),(wB 27 (AM Bq (tm 26) (oN 1))),(wB 11 (AA (tm 27)))]) Xa)
abbrev ai:CC:=(CC.seq (CC.region [(wB 20 (AA (tm 8))),(wB 21 (AY 94 [(tm 20)])),(wB 10 (AA (tm 21)))]) aU)
abbrev eL:CC:=(CC.seq (CC.region [(wB 18 (AA (tm 8))),(wB 19 (Bd IntKind.u64 (tm 18))),(wB 9 (CB 128 [(V.i IntKind.u64 (Int.ofNat 0))])),(CO.mk G.none D.none Bool.true (CR.mk (Ae 1 (tm 9) (tm 19))))]) ai)
abbrev eV:CC:=(CC.cond (tm 17) eL CC.skip)
abbrev du:CC:=(CC.seq (CC.region [(wB 16 (AA (tm 8))),(wB 17 (AM EN (tm 16) (oN 8)))]) eV)
abbrev xV:CC:=(CC.seq (CC.region [(wB 13 (AA (tm 2))),(wB 14 (AA (tm 1))),(wB 15 (AM Bq (tm 13) (tm 14))),(wB 8 (AA (tm 15)))]) du)
theorem yT:AV Try.prog 83=⟨67,xV,[]⟩:=by kernel_rfl
abbrev oU:CC:=(CC.region [(wB 45 (AA (tm 0))),(wB 46 (AA (tm 14))),(wB 47 (AA (tm 3))),(wB 48 (AY 96 [(tm 45),(tm 46),(tm 11),(tm 47)])),(wB 14 (AA (tm 48)))])
abbrev fc:CC:=(CC.seq (CC.region [(wB 41 (AA (tm 0))),(wB 42 (AA (tm 13))),(wB 43 (AA (tm 3))),(wB 44 (AY 96 [(tm 41),(tm 42),(tm 11),(tm 43)])),(wB 13 (AA (tm 44)))]) oU)
abbrev oG:CC:=(CC.seq (CC.region [(wB 37 (AA (tm 0))),(wB 38 (AA (tm 12))),(wB 39 (AA (tm 3))),(wB 40 (AY 96 [(tm 37),(tm 38),(tm 11),(tm 39)])),(wB 12 (AA (tm 40)))]) fc)
abbrev rU:CC:=(CC.cond (tm 36) oG CC.skip)
abbrev qd:CC:=(CC.seq (CC.region [(wB 35 (AA (tm 10))),(wB 36 (AM EN (tm 35) (oN 50)))]) rU)
abbrev rh:CC:=(CC.region [(wB 49 (AA (tm 0))),(wB 50 (AA (tm 12))),(wB 51 (AA (tm 13))),(wB 52 (AA (tm 14))),(wB 53 (AA (tm 3))),(wB 54 (AY 97 [(tm 49),(tm 50),(tm 51),(tm 52),(tm 11),(tm 53)])),(wB 13 (AA (tm 54)))])
abbrev tY:CC:=(CC.seq qd rh)
abbrev nQ:CC:=(CC.cond (tm 34) tY CC.skip)
abbrev jC:CC:=(CC.seq (CC.region [(wB 33 (AA (tm 10))),(wB 34 (AM EN (tm 33) (oN 8)))]) nQ)
abbrev tW:CC:=(CC.seq (CC.region [(wB 59 (AA (tm 13))),(wB 8 (AA (tm 59))),(wB 9 (AA (oN 1)))]) CC.ret)
abbrev Wz:CC:=(CC.seq (CC.region [(wB 62 (AA (tm 13))),(wB 8 (AA (tm 62))),(wB 9 (AA (oN 2)))]) CC.ret)
abbrev Wr:CC:=(CC.seq (CC.region [(wB 56 (AA (tm 13))),(wB 8 (AA (tm 56))),(wB 9 (AA (oN 0)))]) CC.ret)
abbrev Y8:CC:=(CC.cond (tm 60) Wz Wr)
abbrev bG:CC:=(CC.seq (CC.region [(wB 61 (AM Ec (tm 55) (oN 12))),(wB 60 (AA (tm 61)))]) Y8)
abbrev Xq:CC:=(CC.cond (tm 57) tW bG)
abbrev X3:CC:=(CC.seq (CC.region [(wB 58 (AM Ec (tm 55) (oN 0))),(wB 57 (AA (tm 58)))]) Xq)
abbrev Xg:CC:=(CC.block 0 X3)
abbrev ct:CC:=(CC.seq (CC.region [(wB 55 (AW (tm 11)))]) Xg)
abbrev Xw:CC:=(CC.seq jC ct)
abbrev XJ:CC:=(CC.seq (CC.region [(wB 28 (AA (tm 1))),(wB 29 (AA (tm 10))),(wB 30 (AM KM (tm 29) (oN 4))),(wB 31 (AM HB (tm 30) (oN 3))),(wB 32 (AM BB (tm 28) (tm 31))),(wB 14 (AA (tm 32)))]) Xw)
abbrev Zw:CC:=(CC.seq (CC.region [(wB 23 (AA (tm 1))),(wB 24 (AA (tm 10))),(wB 25 (AM KM (tm 24) (oN 4))),(wB 26 (AM HB (tm 25) (oN 2))),(wB 27 (AM BB (tm 23) (tm 26))),(wB 13 (AA (tm 27)))]) XJ)
abbrev XQ:CC:=(CC.seq (CC.region [(wB 18 (AA (tm 1))),(wB 19 (AA (tm 10))),(wB 20 (AM KM (tm 19) (oN 4))),(wB 21 (AM HB (tm 20) (oN 1))),(wB 22 (AM BB (tm 18) (tm 21))),(wB 12 (AA (tm 22)))]) Zw)
abbrev Xd:CC:=(CC.seq (CC.region [(wB 11 (CB 3 [(V.i IntKind.i64 (Int.ofNat 0))]))]) XQ)
abbrev dW:CC:=(CC.seq (CC.region [(wB 15 (AA (tm 2))),(wB 16 (AA (tm 1))),(wB 17 (AM Bq (tm 15) (tm 16))),(wB 10 (AA (tm 17)))]) Xd)
abbrev wh:CC:=(CC.seq (CC.region [(wB 8 (AA (oN 0))),(wB 9 (AA (oN 0)))]) dW)
theorem yv:AV Try.prog 84=⟨63,wh,[(Rs.tmp (AR 8)),(Rs.tmp (AR 9))]⟩:=by kernel_rfl
abbrev jE:CC:=(CC.seq (CC.region [(wB 28 (AA (tm 2))),(wB 29 (AA (tm 1))),(wB 10 (AA (tm 28))),(wB 11 (AA (tm 29)))]) CC.ret)
abbrev kf:CC:=(CC.seq (CC.region [(wB 23 (AA (tm 3))),(wB 24 (Ag (tm 23))),(wB 25 (AW (tm 24))),(wB 26 (AM BB (tm 25) (oN 1))),(wB 27 (Ag (tm 23))),(CO.mk G.none D.none Bool.true (CR.mk (Ae 1 (tm 27) (tm 26))))]) jE)
abbrev oH:CC:=(CC.cond (tm 22) kf CC.skip)
abbrev iB:CC:=(CC.seq (CC.A7 [(uB 12 (AA (tm 4))),(uB 13 (AA (tm 0))),(uB 14 (AA (tm 2))),(uB 15 (AF 5 (tm 13) (tm 14))),(uB 16 (AT 5 (tm 15))),(uB 17 (AA (tm 0))),(uB 18 (AA (tm 1))),(uB 19 (AF 5 (tm 17) (tm 18))),(uB 20 (AT 5 (tm 19))),(wB 21 (Bc (tm 12) [(tm 16),(tm 20)])),(uB 22 (AM Bt (tm 21) (oN 0)))] none) oH)
abbrev n9:CC:=(CC.seq (CC.region [(wB 30 (AA (tm 1))),(wB 31 (AA (tm 2))),(wB 10 (AA (tm 30))),(wB 11 (AA (tm 31)))]) CC.ret)
abbrev kV:CC:=(CC.seq iB n9)
abbrev yV:CC:=(CC.seq (CC.region [(wB 10 (AA (oN 0))),(wB 11 (AA (oN 0)))]) kV)
theorem wq:AV Try.prog 99=⟨32,yV,[(Rs.tmp (AR 10)),(Rs.tmp (AR 11))]⟩:=by kernel_rfl
abbrev nK:CC:=(CC.seq (CC.region [(wB 40 (AA (tm 2))),(wB 12 (AA (tm 40)))]) CC.ret)
abbrev mY:CC:=(CC.seq (CC.region [(wB 32 (AA (tm 0))),(wB 33 (AA (tm 1))),(wB 34 (AA (tm 2))),(wB 35 (AA (tm 4))),(wB 36 (AA (tm 5))),(wB 37 (AY 99 [(tm 32),(tm 33),(tm 34),(tm 35),(tm 36)])),(wB 31 (AA (tm 37))),(wB 38 (Az 0 (tm 31))),(wB 39 (Az 1 (tm 31))),(wB 1 (AA (tm 38))),(wB 2 (AA (tm 39)))]) nK)
abbrev ie:CC:=(CC.seq (CC.region [(wB 23 (AA (tm 0))),(wB 24 (AA (tm 2))),(wB 25 (AA (tm 3))),(wB 26 (AA (tm 4))),(wB 27 (AA (tm 5))),(wB 28 (AY 99 [(tm 23),(tm 24),(tm 25),(tm 26),(tm 27)])),(wB 22 (AA (tm 28))),(wB 29 (Az 0 (tm 22))),(wB 30 (Az 1 (tm 22))),(wB 2 (AA (tm 29))),(wB 3 (AA (tm 30)))]) mY)
abbrev pQ:CC:=(CC.seq (CC.region [(wB 14 (AA (tm 0))),(wB 15 (AA (tm 1))),(wB 16 (AA (tm 2))),(wB 17 (AA (tm 4))),(wB 18 (AA (tm 5))),(wB 19 (AY 99 [(tm 14),(tm 15),(tm 16),(tm 17),(tm 18)])),(wB 13 (AA (tm 19))),(wB 20 (Az 0 (tm 13))),(wB 21 (Az 1 (tm 13))),(wB 1 (AA (tm 20))),(wB 2 (AA (tm 21)))]) ie)
abbrev yy:CC:=(CC.seq (CC.region [(wB 12 (AA (oN 0)))]) pQ)
theorem yU:AV Try.prog 97=⟨41,yy,[(Rs.tmp (AR 12))]⟩:=by kernel_rfl
abbrev kc:CC:=(CC.seq (CC.region [(wB 9 (AA (tm 0))),(wB 10 (AA (tm 1))),(wB 11 (AM Bq (tm 10) (oN 1))),(wB 12 (AA (tm 1))),(wB 13 (AA (tm 1))),(wB 14 (AM BB (tm 13) (oN 1))),(wB 15 (AA (tm 2))),(wB 16 (AA (tm 3))),(wB 17 (AY 97 [(tm 9),(tm 11),(tm 12),(tm 14),(tm 15),(tm 16)])),(wB 8 (AA (tm 17)))]) CC.ret)
abbrev yg:CC:=(CC.seq (CC.region [(wB 8 (AA (oN 0)))]) kc)
theorem w3:AV Try.prog 96=⟨18,yg,[(Rs.tmp (AR 8))]⟩:=by kernel_rfl
abbrev nP:CC:=(CC.cond (tm 15) CC.skip (CC.exit 0))
abbrev lD:CC:=(CC.seq (CC.region [(wB 13 (AA (tm 8))),(wB 14 (AA (tm 9))),(wB 15 (AM Bt (tm 13) (tm 14)))]) nP)
abbrev qD:CC:=(CC.region [(wB 32 (AA (tm 9))),(wB 33 (AM Bq (tm 32) (oN 1))),(wB 9 (AA (tm 33)))])
abbrev ky:CC:=(CC.seq (CC.region [(wB 30 (AA (tm 8))),(wB 31 (AM BB (tm 30) (oN 1))),(wB 8 (AA (tm 31)))]) qD)
abbrev fx:CC:=(CC.seq (CC.A7 [(uB 16 (AA (tm 0))),(uB 17 (AA (tm 8))),(uB 18 (AA (tm 0))),(uB 19 (AA (tm 9))),(uB 20 (AA (tm 0))),(uB 21 (AA (tm 9))),(uB 22 (AF 5 (tm 20) (tm 21))),(uB 23 (AT 5 (tm 22))),(uB 24 (AA (tm 0))),(uB 25 (AA (tm 8))),(uB 26 (AF 5 (tm 24) (tm 25))),(uB 27 (AT 5 (tm 26))),(uB 28 (AF 5 (tm 16) (tm 17))),(CO.mk G.none D.none Bool.true (CR.mk (Ae 5 (tm 28) (tm 23)))),(uB 29 (AF 5 (tm 18) (tm 19))),(CO.mk G.none D.none Bool.true (CR.mk (Ae 5 (tm 29) (tm 27))))] none) ky)
abbrev ni:CC:=(CC.block 1 fx)
abbrev fU:CC:=(CC.seq lD ni)
abbrev qc:CC:=(CC.loop fU)
abbrev jR:CC:=(CC.block 0 qc)
abbrev fS:CC:=(CC.seq (CC.region [(wB 11 (AA (tm 2))),(wB 12 (AM Bq (tm 11) (oN 1))),(wB 9 (AA (tm 12)))]) jR)
abbrev yc:CC:=(CC.seq (CC.region [(wB 10 (AA (tm 1))),(wB 8 (AA (tm 10)))]) fS)
theorem xk:AV Try.prog 85=⟨34,yc,[]⟩:=by kernel_rfl
abbrev qb:CC:=(CC.seq (CC.region [(wB 30 (AA (tm 0))),(wB 31 (Ag (tm 30))),(wB 32 (AW (tm 31))),(wB 2 (AA (tm 32)))]) CC.ret)
abbrev pA:CC:=(CC.seq (CC.A7 [(uB 21 (AA (tm 0))),(uB 22 (Ag (tm 21))),(uB 23 (AW (tm 22))),(uB 24 (AA (tm 0))),(uB 25 (Ag (tm 24))),(uB 26 (AW (tm 25))),(uB 27 (Ce Lj (tm 26) (O.c (V.i IntKind.u64 (Int.ofNat 17))))),(uB 28 (AM KH (tm 23) (tm 27))),(wB 29 (Ag (tm 21))),(CO.mk G.none D.none Bool.true (CR.mk (Ae 1 (tm 29) (tm 28))))] none) qb)
abbrev fW:CC:=(CC.seq (CC.A7 [(uB 12 (AA (tm 0))),(uB 13 (Ag (tm 12))),(uB 14 (AW (tm 13))),(uB 15 (AA (tm 0))),(uB 16 (Ag (tm 15))),(uB 17 (AW (tm 16))),(uB 18 (Ce LM (tm 17) (O.c (V.i IntKind.u64 (Int.ofNat 7))))),(uB 19 (AM KH (tm 14) (tm 18))),(wB 20 (Ag (tm 12))),(CO.mk G.none D.none Bool.true (CR.mk (Ae 1 (tm 20) (tm 19))))] none) pA)
abbrev lY:CC:=(CC.seq (CC.A7 [(uB 3 (AA (tm 0))),(uB 4 (Ag (tm 3))),(uB 5 (AW (tm 4))),(uB 6 (AA (tm 0))),(uB 7 (Ag (tm 6))),(uB 8 (AW (tm 7))),(uB 9 (Ce Lj (tm 8) (O.c (V.i IntKind.u64 (Int.ofNat 13))))),(uB 10 (AM KH (tm 5) (tm 9))),(wB 11 (Ag (tm 3))),(CO.mk G.none D.none Bool.true (CR.mk (Ae 1 (tm 11) (tm 10))))] none) fW)
abbrev yw:CC:=(CC.seq (CC.region [(wB 2 (AA (O.c (V.i IntKind.u64 (Int.ofNat 0)))))]) lY)
theorem xg:AV Try.prog 95=⟨33,yw,[(Rs.tmp (AR 2))]⟩:=by kernel_rfl
abbrev sL:CC:=(CC.seq (CC.region [(wB 3 (AA (tm 0))),(wB 4 (Bd IntKind.u64 (tm 3))),(wB 5 (AY 76 [(tm 4)])),(wB 6 (Ce Lj (O.c (V.i IntKind.u64 (Int.ofNat 1))) (tm 5))),(wB 2 (AA (tm 6)))]) CC.ret)
abbrev w6:CC:=(CC.seq (CC.region [(wB 2 (AA (O.c (V.i IntKind.u64 (Int.ofNat 0)))))]) sL)
theorem yL:AV Try.prog 94=⟨7,w6,[(Rs.tmp (AR 2))]⟩:=by kernel_rfl
abbrev iK:CC:=(CC.seq (CC.region [(wB 3 (AA (tm 0))),(wB 4 (Bd IntKind.u32 (tm 3))),(wB 5 (AY 89 [(tm 4)])),(wB 2 (AA (tm 5)))]) CC.ret)
abbrev oS:CC:=(CC.cond (O.c (V.b Bool.false)) iK CC.skip)
abbrev kl:CC:=(CC.seq (CC.region [(wB 6 (AA (tm 0))),(wB 7 (AY 90 [(tm 6)])),(wB 2 (AA (tm 7)))]) CC.ret)
abbrev uI:CC:=(CC.seq oS kl)
abbrev yE:CC:=(CC.seq (CC.region [(wB 2 (AA (oN 0)))]) uI)
theorem xh:AV Try.prog 76=⟨8,yE,[(Rs.tmp (AR 2))]⟩:=by kernel_rfl
abbrev tg:CC:=(CC.seq (CC.region [(wB 5 (AA (tm 0))),(wB 6 (Ce LM (tm 5) (O.c (V.i IntKind.u64 (Int.ofNat 32))))),(wB 0 (AA (tm 6)))]) (CC.region [(wB 2 (AA (oN 32)))]))
abbrev uC:CC:=(CC.cond (tm 4) tg CC.skip)
abbrev kU:CC:=(CC.seq (CC.region [(wB 3 (AA (tm 0))),(wB 4 (AM EN (tm 3) (O.c (V.i IntKind.u64 (Int.ofNat 4294967296)))))]) uC)
abbrev mB:CC:=(CC.region [(wB 11 (AA (tm 2))),(wB 12 (AM BB (tm 11) (oN 16))),(wB 2 (AA (tm 12)))])
abbrev lO:CC:=(CC.seq (CC.region [(wB 9 (AA (tm 0))),(wB 10 (Ce LM (tm 9) (O.c (V.i IntKind.u64 (Int.ofNat 16))))),(wB 0 (AA (tm 10)))]) mB)
abbrev lV:CC:=(CC.cond (tm 8) lO CC.skip)
abbrev pZ:CC:=(CC.seq (CC.region [(wB 7 (AA (tm 0))),(wB 8 (AM EN (tm 7) (O.c (V.i IntKind.u64 (Int.ofNat 65536)))))]) lV)
abbrev nz:CC:=(CC.region [(wB 17 (AA (tm 2))),(wB 18 (AM BB (tm 17) (oN 8))),(wB 2 (AA (tm 18)))])
abbrev tU:CC:=(CC.seq (CC.region [(wB 15 (AA (tm 0))),(wB 16 (Ce LM (tm 15) (O.c (V.i IntKind.u64 (Int.ofNat 8))))),(wB 0 (AA (tm 16)))]) nz)
abbrev mC:CC:=(CC.cond (tm 14) tU CC.skip)
abbrev cY:CC:=(CC.seq (CC.region [(wB 13 (AA (tm 0))),(wB 14 (AM EN (tm 13) (O.c (V.i IntKind.u64 (Int.ofNat 256)))))]) mC)
abbrev ZK:CC:=(CC.seq (CC.region [(wB 19 (AA (tm 2))),(wB 20 (AA (tm 0))),(wB 21 (Bd IntKind.u8 (tm 20))),(wB 22 (Et (O.c (V.s 256 496986003408712215933005303621146343841837811690876167382323004466384420695090407243345123874780946046625255262057845613767806773758184921447759720770971536008171983842311960805720366577116933250839345203839274948261284255908394484732272583221484877694546905335834403051067785895034095251181560891789708940188598129052595634438001880866652824740680664595948164050600812232986714152902334120417949232733424961741260388658846598210939813666227264727603044226856020347194099943897342244906131705541414413428559898943151040826816076322978570758226444464494629814583418847495712557856038296917933182380796641777551368)) (tm 21))),(wB 23 (Bd IntKind.i64 (tm 22))),(wB 24 (AM BB (tm 19) (tm 23))),(wB 2 (AA (tm 24)))]) CC.ret)
abbrev Zi:CC:=(CC.seq cY ZK)
abbrev ck:CC:=(CC.seq pZ Zi)
abbrev XG:CC:=(CC.seq kU ck)
abbrev yd:CC:=(CC.seq (CC.region [(wB 2 (AA (oN 0)))]) XG)
theorem yK:AV Try.prog 90=⟨25,yd,[(Rs.tmp (AR 2))]⟩:=by kernel_rfl
abbrev je:CC:=(CC.region [(wB 7 (AA (tm 0))),(wB 8 (AA (tm 4))),(wB 9 (AA (tm 4))),(wB 10 (Bd IntKind.u64 (tm 9))),(wB 11 (AY 76 [(tm 10)])),(wB 12 (AA (tm 1))),(wB 13 (AY 75 [(tm 7),(oN 0),(tm 8),(tm 11),(tm 12)]))])
abbrev xY:CC:=(CC.seq (CC.region [(wB 5 (AA (tm 0))),(wB 6 (BW (tm 5))),(wB 4 (AA (tm 6)))]) je)
theorem x6:AV Try.prog 63=⟨14,xY,[]⟩:=by kernel_rfl
abbrev l9:CC:=(CC.seq (CC.region [(wB 4 (AA (oN 0)))]) CC.ret)
abbrev iw:CC:=(CC.cond (tm 12) l9 CC.skip)
abbrev iH:CC:=(CC.seq (CC.region [(wB 12 (AA (tm 6)))]) iw)
abbrev su:CC:=(CC.seq (CC.region [(wB 4 (AA (O.c (V.i IntKind.i64 (Int.negSucc 0)))))]) CC.ret)
abbrev ou:CC:=(CC.seq iH su)
abbrev jh:CC:=(CC.cond (tm 11) ou CC.skip)
abbrev tT:CC:=(CC.seq (CC.region [(wB 11 (AA (tm 5)))]) jh)
abbrev n6:CC:=(CC.seq (CC.region [(wB 4 (AA (oN 1)))]) CC.ret)
abbrev rP:CC:=(CC.cond (tm 13) n6 CC.skip)
abbrev ft:CC:=(CC.seq (CC.region [(wB 13 (AA (tm 6)))]) rP)
abbrev Zl:CC:=(CC.seq (CC.region [(wB 4 (AA (O.c (V.i IntKind.i64 (Int.negSucc 0)))))]) CC.ret)
abbrev Xy:CC:=(CC.cond (tm 16) Zl CC.skip)
abbrev Wd:CC:=(CC.seq (CC.region [(wB 14 (AA (tm 0))),(wB 15 (AA (tm 1))),(wB 16 (AM Bt (tm 14) (tm 15)))]) Xy)
abbrev ZO:CC:=(CC.seq (CC.region [(wB 4 (AA (oN 1)))]) CC.ret)
abbrev cz:CC:=(CC.cond (tm 19) ZO CC.skip)
abbrev Yw:CC:=(CC.seq (CC.region [(wB 17 (AA (tm 0))),(wB 18 (AA (tm 1))),(wB 19 (AM Dc (tm 17) (tm 18)))]) cz)
abbrev eK:CC:=(CC.seq (CC.region [(wB 4 (AA (oN 0)))]) CC.ret)
abbrev Zx:CC:=(CC.seq Yw eK)
abbrev cu:CC:=(CC.seq Wd Zx)
abbrev X6:CC:=(CC.seq ft cu)
abbrev cp:CC:=(CC.seq tT X6)
abbrev cF:CC:=(CC.seq (CC.region [(wB 9 (AA (tm 1))),(wB 10 (AY 91 [(tm 9)])),(wB 6 (AA (tm 10)))]) cp)
abbrev aQ:CC:=(CC.seq (CC.region [(wB 7 (AA (tm 0))),(wB 8 (AY 91 [(tm 7)])),(wB 5 (AA (tm 8)))]) cF)
abbrev wm:CC:=(CC.seq (CC.region [(wB 4 (AA (oN 0)))]) aQ)
theorem yO:AV Try.prog 77=⟨20,wm,[(Rs.tmp (AR 4))]⟩:=by kernel_rfl
abbrev iR:CC:=(CC.seq (CC.region [(wB 3 (AA (tm 0))),(wB 4 (AA (tm 0))),(wB 5 (AM J6 (tm 3) (tm 4))),(wB 2 (AA (tm 5)))]) CC.ret)
abbrev yo:CC:=(CC.seq (CC.region [(wB 2 (AA (O.c (V.b Bool.false))))]) iR)
theorem xW:AV Try.prog 91=⟨6,yo,[(Rs.tmp (AR 2))]⟩:=by kernel_rfl
abbrev uJ:CC:=(CC.seq (CC.region [(wB 5 (AA (tm 0))),(wB 6 (AA (tm 1))),(wB 7 (AY 92 [(tm 5),(tm 6)])),(wB 4 (AA (tm 7)))]) CC.ret)
abbrev xO:CC:=(CC.seq (CC.region [(wB 4 (AA (oN 0)))]) uJ)
theorem wo:AV Try.prog 78=⟨8,xO,[(Rs.tmp (AR 4))]⟩:=by kernel_rfl
abbrev rI:CC:=(CC.seq (CC.region [(wB 5 (AA (tm 0))),(wB 6 (AA (tm 1))),(wB 7 (GQ (tm 5) (tm 6))),(wB 4 (AA (tm 7)))]) CC.ret)
abbrev xt:CC:=(CC.seq (CC.region [(wB 4 (AA (oN 0)))]) rI)
theorem xo:AV Try.prog 92=⟨8,xt,[(Rs.tmp (AR 4))]⟩:=by kernel_rfl
abbrev jV:CC:=(CC.seq (CC.region [(wB 16 (AH 1 (tm 2))),(wB 17 (AW (tm 16))),(wB 18 (AH 1 (tm 3))),(wB 19 (AW (tm 18))),(wB 20 (AY 77 [(tm 17),(tm 19)])),(wB 4 (AA (tm 20)))]) CC.ret)
abbrev nL:CC:=(CC.seq (CC.region [(wB 25 (AH 0 (tm 3))),(wB 26 (AW (tm 25))),(wB 27 (AH 0 (tm 2))),(wB 28 (AW (tm 27))),(wB 29 (AY 77 [(tm 26),(tm 28)])),(wB 4 (AA (tm 29)))]) CC.ret)
abbrev fw:CC:=(CC.seq (CC.region [(wB 5 (AH 2 (tm 2))),(wB 6 (AW (tm 5))),(wB 7 (AH 2 (tm 3))),(wB 8 (AW (tm 7))),(wB 9 (AY 78 [(tm 6),(tm 8)])),(wB 4 (AA (tm 9)))]) CC.ret)
abbrev kp:CC:=(CC.cond (tm 21) nL fw)
abbrev jB:CC:=(CC.seq (CC.region [(wB 22 (AH 1 (tm 2))),(wB 23 (AW (tm 22))),(wB 24 (AM Ec (tm 23) (oN 0))),(wB 21 (AA (tm 24)))]) kp)
abbrev gW:CC:=(CC.cond (tm 10) jV jB)
abbrev og:CC:=(CC.seq (CC.region [(wB 11 (AH 1 (tm 2))),(wB 12 (AW (tm 11))),(wB 13 (AH 1 (tm 3))),(wB 14 (AW (tm 13))),(wB 15 (AM J6 (tm 12) (tm 14))),(wB 10 (AA (tm 15)))]) gW)
abbrev rR:CC:=(CC.block 0 og)
abbrev wv:CC:=(CC.seq (CC.region [(wB 2 (DR 57 (tm 0))),(wB 3 (DR 57 (tm 1))),(wB 4 (AA (oN 0)))]) rR)
theorem yp:AV Try.prog 64=⟨30,wv,[(Rs.tmp (AR 4))]⟩:=by kernel_rfl
end Go.Proofs.Ytobfgempjekjpaa
namespace Go.Ev
open Go
/--places a and b change places -/
def Gt (p:Nat->Nat) (a b:Nat):Nat->Nat:=fun k=>if k=b then p a else if k=a then p b else p k
/--swaps within places a to b -/
inductive Dn (a b:Nat):(Nat->Nat)->(Nat->Nat)->Prop
 |refl (p:Nat->Nat):Dn a b p p
 |swap {p q:Nat->Nat} (i j:Nat):Dn a b p q->a<=i->i<b->a<=j->j<b->Dn a b p (Gt q i j)
section
variable {R:Nat->Nat->Bool} {p q r:Nat->Nat} {a b c d i j k m n x y:Nat}
theorem Nl:Gt p a b b=p a:=if_pos rfl
theorem Iq:Gt p a b a=p b:=by unfold Gt;split<;>simp_all
theorem EL (h1:x≠a) (h2:x≠b):Gt p a b x=p x:=by unfold Gt;rw[if_neg h2,if_neg h1]
theorem Dn.trans (h1:Dn a b p q) (h2:Dn a b q r):Dn a b p r:=by
 induction h2 with
 |refl=>exact h1
 |swap i j _ h3 h4 h5 h6 ih=>exact .swap i j ih h3 h4 h5 h6
theorem Dn.wide (h:Dn a b p q) (ha:c<=a) (hb:b<=d):Dn c d p q:=by
 induction h with
 |refl=>exact .refl _
 |swap i j _ h3 h4 h5 h6 ih=>exact .swap i j ih (by omega) (by omega) (by omega) (by omega)
theorem Dn.one (h1:a<=i) (h2:i<b) (h3:a<=j) (h4:j<b):Dn a b p (Gt p i j):=.swap i j (.refl _) h1 h2 h3 h4
theorem Dn.out (h:Dn a b p q):k<a\/b<=k->q k=p k:=by
 intro hk
 induction h with
 |refl=>rfl
 |swap i j _ h3 h4 h5 h6 ih=>rw[EL (by omega) (by omega)];exact ih
theorem Dn.all {P:Nat->Prop} (h:Dn a b p q) (h1:∀ k,a<=k->k<b->P (p k)):∀ k,a<=k->k<b->P (q k):=by
 induction h with
 |refl=>exact h1
 |swap i j _ h3 h4 h5 h6 ih=>
  intro k k1 k2
  unfold Gt
  split
  ·exact ih i h3 h4
  ·split
   ·exact ih j h5 h6
   ·exact ih k k1 k2
def Bj {α:Type} [Inhabited α] (L:List α) (p:Nat->Nat) (n:Nat):List α:=(List.range n).map fun i=>L.getD (p i) default
section
variable {α:Type} [Inhabited α] {L:List α}
theorem CJ:(Bj L p n).length=n:=by simp[Bj]
theorem By (h:x<n):(Bj L p n).getD x default=L.getD (p x) default:=by simp[Bj,List.getD,h]
theorem O3:((Bj L p n).set a (L.getD (p b) default)).set b (L.getD (p a) default)=Bj L (Gt p a b) n:=by
 refine List.ext_getElem (by simp[Bj]) fun i h1 h2=>?_
 simp only[Bj,List.getElem_set,List.getElem_map,List.getElem_range,Gt]
 by_cases e:b=i
 ·subst e;simp
 ·rw[if_neg e,if_neg (Ne.symm e)]
  by_cases e2:a=i
  ·subst e2;simp
  ·rw[if_neg e2,if_neg (Ne.symm e2)]
theorem RD:Bj L (fun i=>i) L.length=L:=by
 refine List.ext_getElem (by simp[Bj]) fun i h1 h2=>?_
 simp[Bj,List.getD,h2]
theorem VC:∀ {l:List α} {i j:Nat},i<l.length->j<l.length->((l.set i (l.getD j default)).set j (l.getD i default)).Perm l:=by
 intro l i j hi hj
 have e:=@List.set_set_perm α l i j hi hj
 have g1:l.getD j default=l[j]:=by simp[List.getD,hj]
 have g2:l.getD i default=l[i]:=by simp[List.getD,hi]
 rw[g1,g2];exact e
theorem Dn.perm (h:Dn a b p q) (hb:b<=n):(Bj L q n).Perm (Bj L p n):=by
 induction h with
 |refl=>exact List.Perm.refl _
 |swap i j _ h3 h4 h5 h6 ih=>
  rw[<-O3]
  refine List.Perm.trans ?_ ih
  rename_i q _
  have:=VC (l:=Bj L q n) (i:=i) (j:=j) (by rw[CJ];omega) (by rw[CJ];omega)
  rw[By (by omega),By (by omega)]at this
  exact this
end
structure Ord (R:Nat->Nat->Bool):Prop where
 M6:∀ {x y},R x y=true->R y x=false
 nt:∀ {x y z},R x y=false->R y z=false->R x z=false
theorem Ord.UW (o:Ord R):R x x=false:=by
 cases h:R x x with
 |false=>rfl
 |true=>rw[<-h];exact o.M6 h
/--places a to b in order -/
def Gq (R:Nat->Nat->Bool) (p:Nat->Nat) (a b:Nat):Prop:=∀ i j,a<=i->i<j->j<b->R (p j) (p i)=false
/--what is ahead of a isn't above any from a to b -/
def O9 (R:Nat->Nat->Bool) (p:Nat->Nat) (a b:Nat):Prop:=∀ i j,i<a->a<=j->j<b->R (p j) (p i)=false
theorem O9.sw (h:O9 R p a b) (s:Dn a b p q):O9 R q a b:=fun i j h1 h2 h3=>by
 rw[s.out (.inl h1)]
 exact s.all (P:=fun x=>R x (p i)=false) (fun k k1 k2=>h i k h1 k1 k2) j h2 h3
theorem LQ (h:Gq R p a b) (h1:∀ k,a<=k->k<b->q k=p k):Gq R q a b:=fun i j hi hij hj=>by
 rw[h1 i hi (by omega),h1 j (by omega) hj];exact h i j hi hij hj
/--in order up to i,but for place j,which comes ahead of those behind it -/
def Ps (R:Nat->Nat->Bool) (p:Nat->Nat) (a i j:Nat):Prop:=(∀ x y,a<=x->x<y->y<=i->x≠j->y≠j->R (p y) (p x)=false)/\∀ y,j<y->y<=i->R (p y) (p j)=false
theorem Ov (h:Gq R p a i):Ps R p a i i:=⟨fun x y h1 h2 h3 h4 h5=>h x y h1 h2 (by omega),fun y h1 h2=>by omega⟩
theorem OZ (o:Ord R) (M:Ps R p a i (n+1)) (h0:a<=n) (hj:n+1<=i) (hlt:R (p (n+1)) (p n)=true):Ps R (Gt p (n+1) n) a i n:=by
 have hlt:=o.M6 hlt
 constructor
 ·intro x y hx hxy hy hx1 hy1
  by_cases e1:y=n+1
  ·rw[e1,Iq,EL (by omega) hx1]
   exact M.1 x n hx (by omega) (by omega) (by omega) (by omega)
  ·rw[EL e1 hy1]
   by_cases e2:x=n+1
   ·rw[e2,Iq];exact M.1 n y h0 (by omega) hy (by omega) e1
   ·rw[EL e2 hx1];exact M.1 x y hx hxy hy e2 e1
 ·intro y h1 h2
  rw[Nl]
  by_cases e:y=n+1
  ·rw[e,Iq];exact hlt
  ·rw[EL e (by omega)];exact M.2 y (by omega) h2
theorem JF (o:Ord R) (M:Ps R p a i j) (hj:j<=i) (h:j=a\/R (p j) (p (j-1))=false) (ha:a<=j):Gq R p a (i+1):=by
 intro x y hx hxy hy
 by_cases e1:x=j
 ·rw[e1];exact M.2 y (by omega) (by omega)
 ·by_cases e2:y=j
  ·rw[e2]at hxy⊢
   have h:=h.resolve_left (by omega)
   by_cases e3:x=j-1
   ·rw[e3];exact h
   ·exact o.nt h (M.1 x (j-1) hx (by omega) (by omega) e1 (by omega))
  ·exact M.1 x y hx hxy (by omega) e1 e2
def TP (R:Nat->Nat->Bool) (p:Nat->Nat) (a lo hi:Nat):Prop:=∀ k c,lo<=k->(c=2*k+1\/c=2*k+2)->c<hi->R (p (a+k)) (p (a+c))=false
/--but for root,whose children aren't above its parent -/
def Qg (R:Nat->Nat->Bool) (p:Nat->Nat) (a lo hi root:Nat):Prop:=
 (∀ k c,lo<=k->k≠root->(c=2*k+1\/c=2*k+2)->c<hi->R (p (a+k)) (p (a+c))=false)/\
 ∀ k c,lo<=k->(root=2*k+1\/root=2*k+2)->(c=2*root+1\/c=2*root+2)->c<hi->R (p (a+k)) (p (a+c))=false
theorem U6 {lo hi:Nat} (h:TP R p a (lo+1) hi):Qg R p a lo hi lo:=⟨fun k c h1 h2 h3 h4=>h k c (by omega) h3 h4,fun k c h1 h2=>by omega⟩
theorem Sn {lo hi root ch:Nat} (o:Ord R) (h:Qg R p a lo hi root) (hl:lo<=root) (hc:ch=2*root+1\/ch=2*root+2) (hch:ch<hi) (hmax:∀ c,(c=2*root+1\/c=2*root+2)->c<hi->R (p (a+ch)) (p (a+c))=false) (hlt:R (p (a+root)) (p (a+ch))=true):Qg R (Gt p (a+root) (a+ch)) a lo hi ch:=by
 have hlt:=o.M6 hlt
 constructor
 ·intro k c h1 h2 h3 h4
  by_cases e1:k=root
  ·rw[e1,Iq]
   by_cases e2:c=ch
   ·rw[e2,Nl];exact hlt
   ·rw[EL (by omega) (by omega)];exact hmax c (by omega) h4
  ·rw[show Gt p (a+root) (a+ch) (a+k)=p (a+k)from EL (by omega) (by omega)]
   by_cases e2:c=root
   ·rw[e2,Iq];exact h.2 k ch h1 (by omega) hc hch
   ·rw[EL (by omega) (by omega)];exact h.1 k c h1 e1 h3 h4
 ·intro k c h1 h2 h3 h4
  obtain rfl:k=root:=by omega
  rw[Iq,EL (by omega) (by omega)]
  exact h.1 ch c (by omega) (by omega) h3 h4
theorem MW {lo hi root:Nat} (h:Qg R p a lo hi root) (h1:∀ c,(c=2*root+1\/c=2*root+2)->c<hi->R (p (a+root)) (p (a+c))=false):TP R p a lo hi:=fun k c k1 k2 k3=>by
 by_cases e:k=root
 ·subst e;exact h1 c k2 k3
 ·exact h.1 k c k1 e k2 k3
theorem UO {hi:Nat} (o:Ord R) (h:TP R p a 0 hi):∀ k,k<hi->R (p a) (p (a+k))=false:=by
 intro k
 induction k using Nat.strongRecOn with
 |_ k ih=>
  intro hk
  by_cases e:k=0
  ·subst e;exact o.UW
  ·exact o.nt (ih ((k-1)/2) (by omega) (by omega)) (h ((k-1)/2) k (Nat.zero_le _) (by omega) hk)
theorem Td {lo hi:Nat} (h:hi<=2*lo+1):TP R p a lo hi:=fun k c h1 h2 h3=>by omega
def Fin (R:Nat->Nat->Bool) (p:Nat->Nat) (a0 b0 a b:Nat):Prop:=∀ q,Dn a b p q->Gq R q a b->Gq R q a0 b0
theorem Ja {a0 b0:Nat} (h:Fin R p a0 b0 a b) (s:Dn a b p q):Fin R q a0 b0 a b:=fun r s2=>h r (s.trans s2)
/--behind those that are as the pivot -/
theorem bD {a0 b0 e:Nat} (o:Ord R) (h:Fin R p a0 b0 a b) (hm:a<=m) (hb:m<=b) (h0:∀ k,a<=k->k<b->R (p k) e=false) (h1:∀ k,a<=k->k<m->R e (p k)=false):Fin R p a0 b0 m b:=fun q s hs=>by
 refine h q (s.wide hm (Nat.le_refl _)) fun i j i1 i2 i3=>?_
 by_cases d1:m<=i
 ·exact hs i j d1 i2 i3
 ·rw[s.out (.inl (by omega:i<m))]
  have:R (q j) e=false:=(s.wide hm (Nat.le_refl _)).all (P:=fun x=>R x e=false) h0 j (by omega) i3
  exact o.nt this (h1 i i1 (by omega))
theorem aD {e:Nat} (o:Ord R) (h:O9 R p a b) (hm:a<=m) (h1:∀ k,a<=k->k<m->R e (p k)=false) (h2:∀ k,m<=k->k<b->R e (p k)=true):O9 R p m b:=fun i j i1 i2 i3=>by
 by_cases d:i<a
 ·exact h i j d (by omega) i3
 ·exact o.nt (o.M6 (h2 j i2 i3)) (h1 i (by omega) i1)
/--around the pivot,at m -/
structure QS (R:Nat->Nat->Bool) (p:Nat->Nat) (a b m:Nat):Prop where
 am:a<=m
 mb:m<b
 lt:∀ k,a<=k->k<m->R (p k) (p m)=true
 ge:∀ k,m<k->k<b->R (p k) (p m)=false
theorem Oc (o:Ord R) (P:QS R p a b m) (h1:Gq R p a m) (h2:Gq R p (m+1) b):Gq R p a b:=fun i j i1 i2 i3=>by
 by_cases d1:j<m
 ·exact h1 i j i1 i2 d1
 ·by_cases d2:j=m
  ·subst d2;exact o.M6 (P.lt i i1 i2)
  ·by_cases d3:m<i
   ·exact h2 i j d3 i2 i3
   ·by_cases d4:i=m
    ·subst d4;exact P.ge j (by omega) i3
    ·exact o.nt (P.ge j (by omega) i3) (o.M6 (P.lt i i1 (by omega)))
theorem QS.left (P:QS R p a b m) (s:Dn a m p q):QS R q a b m:=⟨P.am,P.mb,fun k k1 k2=>by
 rw[s.out (.inr (Nat.le_refl _))];exact s.all (P:=fun x=>R x (p m)=true) (fun k k1 k2=>P.lt k k1 k2) k k1 k2,fun k k1 k2=>by
 rw[s.out (.inr (Nat.le_refl _)),s.out (.inr (by omega))];exact P.ge k k1 k2⟩
theorem QS.right (P:QS R p a b m) (s:Dn (m+1) b p q):QS R q a b m:=⟨P.am,P.mb,fun k k1 k2=>by
 rw[s.out (.inl (by omega)),s.out (.inl (by omega))];exact P.lt k k1 k2,fun k k1 k2=>by
 rw[show q m=p m from s.out (.inl (by omega))];exact s.all (P:=fun x=>R x (p m)=false) (fun k k1 k2=>P.ge k (by omega) k2) k (by omega) k2⟩
theorem MV (h:O9 R p a b) (hm:m<=b):O9 R p a m:=fun i j i1 i2 i3=>h i j i1 i2 (by omega)
theorem Kv (o:Ord R) (h:O9 R p a b) (P:QS R p a b m):O9 R p (m+1) b:=fun i j i1 i2 i3=>by
 by_cases d1:i<a
 ·exact h i j d1 (by have:=P.am;omega) i3
 ·by_cases d2:i=m
  ·subst d2;exact P.ge j (by omega) i3
  ·exact o.nt (P.ge j (by omega) i3) (o.M6 (P.lt i (by omega) (by omega)))
theorem Px {a0 b0:Nat} (o:Ord R) (h:Fin R p a0 b0 a b) (P:QS R p a b m) (hs:Gq R p a m):Fin R p a0 b0 (m+1) b:=fun q s h2=>by
 have:=P.am;have:=P.mb
 exact h q (s.wide (by omega) (Nat.le_refl _)) (Oc o (P.right s) (LQ hs fun k k1 k2=>s.out (.inl (by omega))) h2)
theorem Qd {a0 b0:Nat} (o:Ord R) (h:Fin R p a0 b0 a b) (P:QS R p a b m) (hs:Gq R p (m+1) b):Fin R p a0 b0 a m:=fun q s h2=>by
 have:=P.am;have:=P.mb
 exact h q (s.wide (Nat.le_refl _) (by omega)) (Oc o (P.left s) h2 (LQ hs fun k k1 k2=>s.out (.inr (by omega))))
end
end Go.Ev
namespace Go.Ev
open Go
/--less of a block's cells -/
theorem DM.pre {h:H} {id:B} {xs ys:List V} (o:DM h id (xs++ys)):DM h id xs:=by
 obtain⟨Ak,h1,h2,h3,h4,h5,h6,h7⟩:=o
 refine⟨Ak,h1,h2,h3,h4,h5,h6,fun i y hy=>h7 i y ?_⟩
 have hi:=(List.getElem?_eq_some_iff.1 hy).1
 rw[List.getElem?_append_left hi];exact hy
theorem DM.none {h:H} {id:B} {xs:List V} (o:DM h id xs):DM h id []:=DM.pre (xs:=[]) (ys:=xs) o
/--cells stored behind those that are known -/
theorem Ph {h:H} {id:B} {xs vs:List V} {fin:Nat} (o:DM h id xs) (hj:xs.length+vs.length<=fin) (hfit:fin<2 ^ 37) (h1:Bx vs=true):∃ h',(∀ k,store h id 0 xs.length fin vs k=k h')/\DM h' id (xs++vs)/\AU (fun i=>i=id) h h':=by
 obtain⟨Ak,a1,a2,a3,a4,a5,a6,a7⟩:=o
 obtain⟨next,floor,heap⟩:=h
 obtain⟨cur,min,sz,cells,bel,fr⟩:=Ak
 simp only at a2 a3 a4 a7
 subst a2;subst a3;subst a4
 obtain⟨tr,t1,t2,t3⟩:=Br vs xs.length cells (by omega)
 obtain⟨hp,s1,s2,s3⟩:=Bv id (⟨0,0,sz,tr,bel,0⟩:Gn) heap
 have e1:B.KF floor id=true:=by cases floor<;>first|rfl|(show Nat.ble _ _=true;rw[Nat.ble_eq];exact a5)
 have e2:Nat.ble (Nat.add xs.length vs.length) fin=true:=by rw[Nat.ble_eq];exact hj
 have e4:HF 0 xs.length=true:=rfl
 have e5:Nat.beq 0 0=true:=rfl
 have e6:Nat.ble 0 0=true:=rfl
 have a1':heap.get id=some ⟨0,0,sz,cells,bel,0⟩:=a1
 refine⟨⟨next,floor,hp⟩,fun k=>?_,⟨_,s2,rfl,rfl,rfl,a5,a6,fun i z hz=>?_⟩,⟨rfl,Nat.le_refl _,fun i _ hi=>s3 i hi⟩⟩
 ·simp only[store,CI,a1',Al,BD,e5,e6,e1,e2,h1,e4,AG]
  rw[t1,s1]
 ·show tr.BL i=some z
  by_cases hi:i<xs.length
  ·rw[List.getElem?_append_left hi]at hz
   rw[t3 i (by omega)];exact a7 i z hz
  ·rw[List.getElem?_append_right (by omega)]at hz
   have:=t2 _ z hz
   rwa [show xs.length+(i-xs.length)=i by omega]at this
section
variable {P:Program} {h:H} {N:Nx} {id:B} {el size ER len c:Nat} {x:V} {xs vs:List V}
/--in place:there is room -/
theorem AP.made (o:DM h id xs) (hlen:xs.length=len*size) (hx:∀ k:Nat->List V->Bool,DG size x h k=k ER vs) (hn:vs.length=ER*size) (h1:Bx vs=true) (hc:len+ER<=c) (hfit:c*size<2 ^ 37) (hcb:c<18446744073709551616)
 (k:∀ h',DM h' id (xs++vs)->AU (fun i=>i=id) h h'->N.go P (.l id 0 0 (len+ER) (c*size) (some c)) h'):AP P el size (.l id 0 0 len (c*size) (some c)) x h N:=by
 have hle:Nat.ble (Nat.add len ER) c=true:=by rw[Nat.ble_eq];exact hc
 have hmul:=Nat.mul_le_mul_right size hc
 rw[Nat.add_mul]at hmul
 cases ER with
 |zero=>
  have hv:vs=[]:=List.eq_nil_of_length_eq_zero (by rw[hn,Nat.zero_mul])
  subst hv
  refine DQ (v:=.l id 0 0 (len+0) (c*size) (some c)) (h':=h) (fun q=>?_) (k h (by rw[List.append_nil];exact o) ⟨rfl,Nat.le_refl _,fun _ _ _=>rfl⟩)
  rw[hx]
  show A1 (BP c) _ (fun _=>A1 (Nat.ble (Nat.add len 0) c) (fun _=>F4 id 0 0 len (c*size) c size 0 [] h q) _)=_
  rw[FR hcb,BC,hle];rfl
 |succ m=>
  obtain⟨h',a1,a2,a3⟩:=Ph o (vs:=vs) (fin:=c*size) (by omega) hfit h1
  refine DQ (v:=.l id 0 0 (len+(m+1)) (c*size) (some c)) (h':=h') (fun q=>?_) (k h' a2 a3)
  rw[hx]
  show A1 (BP c) _ (fun _=>A1 (Nat.ble (Nat.add len (m+1)) c) (fun _=>F4 id 0 0 len (c*size) c size (m+1) vs h q) _)=_
  rw[FR hcb,BC,hle]
  show store h id 0 (Nat.add 0 (Nat.mul len size)) (c*size) vs (fun h=>fN (Nat.add len (m+1)) fun l'=>q (.l id 0 0 l' (c*size) (some c)) h)=_
  rw[show Nat.add 0 (Nat.mul len size)=xs.length by rw[hlen];show 0+len*size=_;omega,a1,A2]
  rfl
/--append(S{},s...):a new block,or the empty one -/
theorem AP.e1 {g off fin:Nat} (hx:∀ k:Nat->List V->Bool,DG size x h k=k ER vs) (hf:B.val h.floor<=B.val h.next) (hn:vs.length=ER*size) (hl:ER<=1048576) (hl2:vs.length<2 ^ 38)
 (k0:ER=0->N.go P (.l id g off 0 fin (some 0)) h)
 (k:∀ h',1<=ER->AU AQ h h'->B.val h'.next=B.val h.next+1->Ff h' el size (.l h.next 0 0 ER vs.length none) vs->NN h' (.l h.next 0 0 ER vs.length none)->N.go P (.l h.next 0 0 ER vs.length none) h'):AP P el size (.l id g off 0 fin (some 0)) x h N:=by
 cases ER with
 |zero=>
  have hv:vs=[]:=List.eq_nil_of_length_eq_zero (by rw[hn,Nat.zero_mul])
  subst hv
  exact DQ (v:=.l id g off 0 fin (some 0)) (h':=h) (fun q=>by rw[hx];rfl) (k0 rfl)
 |succ m=>
 obtain⟨h',a1,a2,a3,Ak,b1,b2,b3,b4,b5,b6,b7⟩:=DT el vs h hl2
 have hble:Nat.ble (Nat.add 0 (m+1)) 1048576=true:=by rw[Nat.ble_eq];show 0+(m+1)<=_;omega
 have hno:Nat.ble (Nat.add 0 (m+1)) 0=false:=by
  cases hx:Nat.ble (Nat.add 0 (m+1)) 0 with
  |false=>rfl
  |true=>have:=Nat.le_of_ble_eq_true hx;have h2:0+(m+1)<=0:=this;omega
 refine DQ (v:=.l h.next 0 0 (m+1) vs.length none) (h':=h') (fun q=>?_) (k h' (by omega) a2 a3 (.inr ⟨h.next,0,m+1,Ak,rfl,by omega,hn,by rw[a2.floor];exact hf,by omega,b1,⟨by omega,by omega⟩,b4,b5,b6,b7⟩) ?_)
 ·rw[hx]
  show A1 (BP 0) (fun _=>CQ (TZ (Nat.ble 1 0) (Nat.beq 0 (Nat.add 18446744073709551615 size))) el id g off 0 fin size (m+1) vs h q) (fun _=>A1 (Nat.ble (Nat.add 0 (m+1)) 0) (fun _=>F4 id g off 0 fin 0 size (m+1) vs h q) fun _=>Dz el id g off 0 fin size (m+1) vs h q)=_
  rw[FR (by omega),BC,hno,BC]
  unfold Dz
  rw[hble,AG]
  show alloc el (app [] vs) h (fun id h=>fN (Nat.add 0 (m+1)) fun l'=>fN (Nat.mul l' size) fun fin'=>q (.l id 0 0 l' fin' none) h)=_
  rw[Dj,List.nil_append,a1,A2,A2]
  show q (.l h.next 0 0 (0+(m+1)) ((0+(m+1))*size) none) h'=_
  rw[Nat.zero_add,<-hn]
 ·intro id' g off n fin cap e
  cases e
  exact⟨Ak,b1,b3⟩
end
end Go.Ev
set_option maxRecDepth 100000
set_option maxHeartbeats 8000000
namespace Go.Ev
open Go
def yI (h:H) (el n:Nat) (v:V) (m:Nat) (xs:List V):Prop:=∃ id g cap Ak,v=.l id g 0 m (m*n) cap/\xs.length=m*n/\((1<=m/\cap=none)\/(m=0/\cap=some (18446744073709551615+n)))/\
 B.val h.floor<=B.val id/\B.val id<B.val h.next/\h.heap.get id=some Ak/\Ak.min<=g/\Ak.cur=g/\m*n<=Ak.size/\Ak.el=el/\Ak.fr=0/\∀ i y,xs[i]? =some y->Ak.cells.BL i=some y
/--a row of one's own that is the newest of its block;or nothing -/
def Gr {α:Type} (el n:Nat) (c:α->List V) (h:H) (v:V) (L:List α):Prop:=
 (v=.l0/\L=[])\/(∃ id g off fin,v=.l id g off 0 fin (some 0)/\L=[]/\off<=fin/\B.val id<B.val h.next)\/yI h el n v L.length (L.flatMap c)
section
variable {P:Program} {α:Type} [Inhabited α] {n el:Nat} {c:α->List V} {h h':H} {N:Nx} {v x:V} {L X:List α} {j k ER:Nat} {vs:List V}
theorem Gr.nil:Gr el n c h .l0 ([]:List α):=.inl ⟨rfl,rfl⟩
theorem Gr.v5 {id:B} {g off fin:Nat} (h1:off<=fin) (h2:B.val id<B.val h.next):Gr el n c h (.l id g off 0 fin (some 0)) ([]:List α):=.inr (.inl ⟨_,_,_,_,rfl,rfl,h1,h2⟩)
theorem Gr.buf (b:Ff h el n v (L.flatMap c)) (tp:NN h v) (hc:∀ e,(c e).length=n) (hn:1<=n):Gr el n c h v L:=by
 rcases b with⟨rfl,e⟩|⟨id,g,m,Ak,rfl,b1,b2,b3,b4,b5,b6,b7,b8,b9,b10⟩
 ·refine .inl ⟨rfl,?_⟩
  cases L with
  |nil=>rfl
  |cons a L=>have:=Cn hc (a::L);rw[e]at this;have h3:(L.length+1)*n=0:=this.symm;rw[Nat.add_mul]at h3;omega
 ·obtain⟨blk',b5',hcur⟩:=tp id g 0 m _ none rfl
  have hbb:blk'=Ak:=by rw[b5]at b5';exact(Option.some.inj b5').symm
  subst hbb
  have hm:m=L.length:=by
   rw[Cn hc]at b2
   exact(Nat.eq_of_mul_eq_mul_right (by omega) b2).symm
  subst hm
  exact .inr (.inr ⟨id,g,none,blk',by rw[b2],b2,.inl ⟨b1,rfl⟩,b3,b4,b5,b6.1,hcur,by omega,b8,b9,b10⟩)
theorem Gr.ss (a:Gr el n c h v L):Ss n c h v L:=by
 rcases a with⟨rfl,rfl⟩|⟨id,g,off,fin,rfl,rfl,h1,h2⟩|⟨id,g,cap,Ak,rfl,a1,a2,a3,a4,a5,a6,a7,a8,a9,a10,a11⟩
 ·exact .inl ⟨rfl,rfl⟩
 ·exact .inr ⟨id,g,off,fin,_,rfl,by simpa using h1,h2,fun e=>absurd rfl e,fun i y hy=>by simp at hy⟩
 ·refine .inr ⟨id,g,0,_,cap,rfl,by omega,a4,fun _=>⟨Ak,a5,a6⟩,fun i y hy=>?_⟩
  unfold Ev.cell G4
  rw[a5]
  show(if Ak.min<=g then Ak.cells.BL (0+i)else none)=_
  rw[if_pos a6,Nat.zero_add]
  exact a11 i y hy
theorem Gr.lt (a:Gr el n c h v L):∀ q,Am v q->B.val q<B.val h.next:=by
 rcases a with⟨rfl,rfl⟩|⟨id,g,off,fin,rfl,rfl,h1,h2⟩|⟨id,g,cap,Ak,rfl,a1,a2,a3,a4,_⟩
 ·rintro q ⟨_,_,_,_,_,e⟩;cases e
 ·rintro q ⟨_,_,_,_,_,e⟩;cases e;exact h2
 ·rintro q ⟨_,_,_,_,_,e⟩;cases e;exact a4
theorem Gr.stay {p:B->Prop} (a:Gr el n c h v L) (s:AU p h h') (hp:∀ q,Am v q->¬p q):Gr el n c h' v L:=by
 rcases a with⟨rfl,rfl⟩|⟨id,g,off,fin,rfl,rfl,h1,h2⟩|⟨id,g,cap,Ak,rfl,a1,a2,a3,a4,a5,a6⟩
 ·exact .inl ⟨rfl,rfl⟩
 ·exact .inr (.inl ⟨id,g,off,fin,rfl,rfl,h1,Nat.lt_of_lt_of_le h2 s.next⟩)
 ·exact .inr (.inr ⟨id,g,cap,Ak,rfl,a1,a2,by rw[s.floor];exact a3,Nat.lt_of_lt_of_le a4 s.next,(s.get id a4 (hp id ⟨_,_,_,_,_,rfl⟩)).trans a5,a6⟩)
theorem Gr.grow (a:Gr el n c h v L) (s:AU AQ h h'):Gr el n c h' v L:=a.stay s fun _ _ e=>e
/--a store into a block -/
theorem Ke {id:B} {g off fin:Nat} {Ak:Gn} (h0:h.heap.get id=some Ak) (h1:Ak.cur=g) (h2:Ak.min<=g) (h3:Ak.fr=0) (h4:B.val h.floor<=B.val id) (hj:off+vs.length<=fin) (hfit:off+vs.length<2 ^ 37) (ho:Bx vs=true):
 ∃ h' tr,(∀ k,store h id g off fin vs k=k h')/\h'.heap.get id=some ⟨g,g,Ak.size,tr,Ak.el,0⟩/\(∀ i y,vs[i]? =some y->tr.BL (off+i)=some y)/\(∀ i,i<off\/off+vs.length<=i->tr.BL i=Ak.cells.BL i)/\AU (fun q=>q=id) h h'/\h'.next=h.next:=by
 obtain⟨next,floor,heap⟩:=h
 obtain⟨cur,min,sz,cells,bel,fr⟩:=Ak
 simp only at h1 h2 h3 h4
 subst h1;subst h3
 obtain⟨tr,t1,t2,t3⟩:=Br vs off cells (by omega)
 obtain⟨hp,s1,s2,s3⟩:=Bv id (⟨cur,cur,sz,tr,bel,0⟩:Gn) heap
 have e1:B.KF floor id=true:=by cases floor<;>first|rfl|(show Nat.ble _ _=true;rw[Nat.ble_eq];exact h4)
 have e2:Nat.ble (Nat.add off vs.length) fin=true:=by rw[Nat.ble_eq];exact hj
 have e4:HF 0 off=true:=rfl
 have e5:Nat.beq cur cur=true:=Nat.beq_refl cur
 have e6:Nat.ble min cur=true:=by rw[Nat.ble_eq];exact h2
 have h0':heap.get id=some ⟨cur,min,sz,cells,bel,0⟩:=h0
 refine⟨⟨next,floor,hp⟩,tr,fun k=>?_,s2,t2,fun i hi=>t3 i hi,⟨rfl,Nat.le_refl _,fun q _ hq=>s3 q hq⟩,rfl⟩
 simp only[store,CI,h0',Al,BD,e5,e6,e1,e2,ho,e4,AG]
 rw[t1,s1]
/--l[j]=y -/
theorem ST.gr {y:α} (a:Gr el n c h v L) (hc:∀ e,(c e).length=n) (hn:1<=n) (hj:j<L.length) (hl:L.length*n<2 ^ 36) (h1:Bx (c y)=true)
 (k:∀ h',Gr el n c h' v (L.set j y)->AU (Am v) h h'->N.go P (.tu []) h'):ST P n (.p (Fb v) (lg v) (Cf v+j*n) (Cg v)) (.a (c y)) h N:=by
 rcases a with⟨rfl,rfl⟩|⟨id,g,off,fin,rfl,rfl,_⟩|⟨id,g,cap,Ak,rfl,a1,a2,a3,a4,a5,a6,a7,a8,a9,a10,a11⟩
 ·simp at hj
 ·simp at hj
 have hjn:(j+1)*n<=L.length*n:=Nat.mul_le_mul_right n hj
 rw[Nat.add_mul]at hjn
 obtain⟨h',tr,b1,b2,b3,b4,b5,b6⟩:=Ke (off:=j*n) (fin:=L.length*n) (vs:=c y) a5 a7 a6 a10 a3 (by rw[hc];omega) (by rw[hc];omega) h1
 refine DQ (v:=.tu []) (h':=h') (fun k=>?_) (k h' (.inr (.inr ⟨id,g,cap,_,by rw[List.length_set],by rw[Cn hc,List.length_set],by rw[List.length_set];exact a2,by rw[b5.floor];exact a3,by rw[b6];exact a4,b2,Nat.le_refl _,rfl,by rw[List.length_set];exact a8,a9,rfl,fun i z hz=>?_⟩)) (b5.mono fun q _ e=>by rw[e];exact⟨_,_,_,_,_,rfl⟩))
 ·show Ap (Nat.beq (c y).length n) (fun _=>store h id g (0+j*n) (L.length*n) (c y) fun h=>k (.tu []) h)=_
  rw[hc,Nat.beq_refl,AG,Nat.zero_add,b1]
 ·show tr.BL i=some z
  have hil:i<L.length*n:=by
   have h1:=(List.getElem?_eq_some_iff.1 hz).1
   rw[Cn hc,List.length_set]at h1;exact h1
  have hd:i%n<n:=Nat.mod_lt _ hn
  have hi:i=i/n*n+i%n:=by rw[Nat.mul_comm];exact(Nat.div_add_mod i n).symm
  have hq:i/n<L.length:=(Nat.div_lt_iff_lt_mul hn).2 hil
  generalize i/n=q at*
  generalize i%n=d at*
  subst hi
  rw[KE hc (by rw[List.length_set];exact hq) hd]at hz
  by_cases e:q=j
  ·subst e
   have hdl:d<(c y).length:=by rw[hc];exact hd
   have:(L.set q y).getD q default=y:=by simp[List.getD,hq]
   rw[this]at hz
   rw[b3 d ((c y).getD d .u) (by simp[List.getD,hdl]),hz]
  ·have:(L.set j y).getD q default=L.getD q default:=by
    rw[List.getD_eq_getElem?_getD,List.getElem?_set_ne (fun h=>e h.symm),<-List.getD_eq_getElem?_getD]
   rw[this]at hz
   rw[b4]
   ·exact a11 _ _ (by rw[KE hc hq hd];exact hz)
   ·rw[hc]
    rcases Nat.lt_or_gt_of_ne e with h|h
    ·have:(q+1)*n<=j*n:=Nat.mul_le_mul_right n h
     rw[Nat.add_mul]at this;omega
    ·have:(j+1)*n<=q*n:=Nat.mul_le_mul_right n h
     rw[Nat.add_mul]at this;omega
/--append -/
theorem AP.gr (a:Gr el n c h v L) (hc:∀ e,(c e).length=n) (hn:1<=n) (hx:∀ k:Nat->List V->Bool,DG n x h k=k X.length (X.flatMap c)) (h1:Bx (X.flatMap c)=true) (hpos:1<=L.length+X.length) (hb:(L.length+X.length)*n<=1048576) (hf:B.val h.floor<=B.val h.next)
 (k:∀ v' h',Gr el n c h' v' (L++X)->AU (Am v) h h'->(∀ i,Am v' i->Am v i\/B.val h.next<=B.val i)->N.go P v' h'):AP P el n v x h N:=by
 have hXl:(X.flatMap c).length=X.length*n:=Cn hc X
 rw[Nat.add_mul]at hb
 have hXle:X.length<=X.length*n:=Nat.le_mul_of_pos_right _ hn
 have hLle:L.length<=L.length*n:=Nat.le_mul_of_pos_right _ hn
 rcases a with⟨rfl,rfl⟩|⟨id,g,off,fin,rfl,rfl,h2,h3⟩|⟨id,g,cap,Ak,rfl,a1,a2,a3,a4,a5,a6,a7,a8,a9,a10,a11⟩
 ·refine AP.buf (vs:=X.flatMap c) (ER:=X.length) (Ff.nil h el n) hx hf hn hXl h1 (by rw[hXl,List.length_nil];omega) fun v' h' b s hv tp=>k v' h' (Gr.buf (by simpa using b) tp hc hn) s hv
 ·refine AP.e1 hx hf hXl (by omega) (by omega) (fun e=>by rw[List.length_nil]at hpos;omega) fun h' _ s nx b tp=>k _ h' (Gr.buf (by simpa using b) tp hc hn) (s.mono fun _ _ e=>e.elim) fun i hi=>?_
  obtain⟨_,_,_,_,_,e⟩:=hi;cases e;exact .inr (Nat.le_refl _)
 ·obtain⟨next,floor,heap⟩:=h
  obtain⟨cur,min,sz,cells,bel,fr⟩:=Ak
  simp only at a6 a7 a8 a9 a10
  subst a7;subst a10;subst a9
  obtain⟨tr,t1,t2,t3⟩:=Br (X.flatMap c) (L.length*n) cells (by omega)
  obtain⟨min',hmin⟩:∃ m',Qj (Nat.beq (L.length*n) sz) min (Nat.succ cur)=m':=⟨_,rfl⟩
  have hmin2:min'<=cur+1:=by
   rw[<-hmin]
   cases Nat.beq (L.length*n) sz with
   |true=>show min<=cur+1;omega
   |false=>exact Nat.le_refl _
  obtain⟨hp,s1,s2,s3⟩:=Bv id (⟨Nat.succ cur,min',Nat.add (L.length*n) (Nat.mul X.length n),tr,bel,0⟩:Gn) heap
  have e1:Nat.ble min cur=true:=by rw[Nat.ble_eq];exact a6
  have e2:B.KF floor id=true:=by cases floor<;>first|rfl|(show Nat.ble _ _=true;rw[Nat.ble_eq];exact a3)
  have e3:Nat.add 0 (Nat.mul L.length n)=L.length*n:=by show 0+L.length*n=_;omega
  have e3':Nat.ble (L.length*n) sz=true:=by rw[Nat.ble_eq];exact a8
  have e4:Nat.beq (L.length*n) (L.length*n)=true:=Nat.beq_refl _
  have e6:Nat.ble (Nat.add L.length X.length) 1048576=true:=by rw[Nat.ble_eq];show L.length+X.length<=1048576;omega
  have e7:HF 0 (L.length*n)=true:=rfl
  have e8:Nat.beq bel bel=true:=Nat.beq_refl _
  have e9:LI n (Nat.add L.length X.length)=none:=JX (by show 1<=L.length+X.length;omega)
  have b5':heap.get id=some ⟨cur,min,sz,cells,bel,0⟩:=a5
  have go:∀ z,z=true->∀ k,CQ z bel id cur 0 L.length (L.length*n) n X.length (X.flatMap c) ⟨next,floor,heap⟩ k=k (.l id (Nat.succ cur) 0 (L.length+X.length) (L.length*n+X.length*n) none) ⟨next,floor,hp⟩:=fun z hz k=>by
   subst hz
   simp only[CQ,CI,b5',Al,BD,A2,e3,e1,e2,e3',e4,e6,h1,e7,e8,e9,AG,hmin]
   rw[t1,s1];rfl
  have go2:∀ q,CS bel n (.l id cur 0 L.length (L.length*n) cap) X.length (X.flatMap c) ⟨next,floor,heap⟩ q=q (.l id (Nat.succ cur) 0 (L.length+X.length) (L.length*n+X.length*n) none) ⟨next,floor,hp⟩:=fun q=>by
   rcases a2 with⟨a2,rfl⟩|⟨a2,rfl⟩
   ·exact go _ (by rw[Nat.ble_eq];exact a2) q
   ·show A1 (BP (18446744073709551615+n)) (fun _=>CQ (TZ (Nat.ble 1 L.length) (Nat.beq (18446744073709551615+n) (Nat.add 18446744073709551615 n))) bel id cur 0 L.length (L.length*n) n X.length (X.flatMap c) ⟨next,floor,heap⟩ q) _=_
    have hfl:BP (18446744073709551615+n)=true:=by show Nat.ble _ _=true;rw[Nat.ble_eq];omega
    rw[hfl,DK]
    refine go _ ?_ q
    rw[show Nat.beq (18446744073709551615+n) (Nat.add 18446744073709551615 n)=true from Nat.beq_refl _]
    cases Nat.ble 1 L.length<;>rfl
  refine DQ (v:=.l id (Nat.succ cur) 0 (L.length+X.length) (L.length*n+X.length*n) none) (h':=⟨next,floor,hp⟩) (fun q=>by rw[hx,go2]) (k _ _ (.inr (.inr ⟨id,cur+1,none,_,?_,?_,.inl ⟨by rw[List.length_append];omega,rfl⟩,a3,a4,s2,hmin2,rfl,?_,rfl,rfl,fun i y hy=>?_⟩)) ⟨rfl,Nat.le_refl _,fun q _ hq=>s3 q fun e=>hq (by rw[e];exact⟨_,_,_,_,_,rfl⟩)⟩ fun i hi=>?_)
  ·rw[List.length_append,Nat.add_mul]
  ·rw[List.flatMap_append,List.length_append,List.length_append,a1,hXl,Nat.add_mul]
  ·show(L++X).length*n<=L.length*n+X.length*n
   rw[List.length_append,Nat.add_mul];exact Nat.le_refl _
  ·show tr.BL i=some y
   rw[List.flatMap_append]at hy
   by_cases hi:i<L.length*n
   ·rw[t3 i (.inl hi)]
    refine a11 i y ?_
    rwa [List.getElem?_append_left (by rw[a1];exact hi)]at hy
   ·rw[List.getElem?_append_right (by rw[a1];omega),a1]at hy
    have:=t2 (i-L.length*n) y hy
    rwa [show L.length*n+(i-L.length*n)=i by omega]at this
  ·obtain⟨_,_,_,_,_,e⟩:=hi;cases e;exact .inl ⟨_,_,_,_,_,rfl⟩
/--v[:k] -/
theorem Gr.hi (a:Gr el n c h v L) (hc:∀ e,(c e).length=n) (hk:k<=L.length) (hL:1<=L.length):∃ u,Gr el n c h u (L.take k)/\(∀ q,Am u q->Am v q)/\∀ (g:H) (N:Nx),H2 P (FF n) v (.i .i64 (k:Int)) g N=N.go P u g:=by
 rcases a with⟨rfl,rfl⟩|⟨id,g,off,fin,rfl,rfl,_⟩|⟨id,g,cap,Ak,rfl,a1,a2,a3,a4,a5,a6,a7,a8,a9,a10,a11⟩
 ·simp at hL
 ·simp at hL
 obtain⟨_,rfl⟩:1<=L.length/\cap=none:=by
  rcases a2 with h|h
  ·exact h
  ·omega
 have htk:(L.take k).length=k:=by rw[List.length_take];omega
 have hkn:k*n<=L.length*n:=Nat.mul_le_mul_right n hk
 refine⟨.l id g 0 k (k*n) (GO n k L.length),.inr (.inr ⟨id,g,GO n k L.length,Ak,by rw[htk],by rw[Cn hc],?_,a3,a4,a5,a6,a7,by rw[htk];omega,a9,a10,fun i y hy=>a11 i y ?_⟩),?_,fun g0 N=>Ai fun q=>?_⟩
 ·rw[htk]
  cases k with
  |zero=>
   right
   refine⟨rfl,?_⟩
   obtain⟨m,hm⟩:∃ m,L.length=m+1:=⟨L.length-1,by omega⟩
   rw[hm];rfl
  |succ k=>left;exact⟨by omega,rfl⟩
 ·rw[Iy hc,List.getElem?_take]at hy
  split at hy
  ·exact hy
  ·cases hy
 ·rintro q ⟨_,_,_,_,_,e⟩;cases e;exact⟨_,_,_,_,_,rfl⟩
 ·have e0:Nat.ble 0 k=true:=by rw[Nat.ble_eq];omega
  have e1:Nat.ble k L.length=true:=by rw[Nat.ble_eq];exact hk
  have e2:Nat.beq (L.length*n) (Nat.add 0 (Nat.mul L.length n))=true:=by
   rw[show Nat.add 0 (Nat.mul L.length n)=L.length*n by show 0+L.length*n=_;omega];exact Nat.beq_refl _
  unfold FF
  simp only[C0,Cw,Ba,e0,AG]
  show DB n id g 0 L.length (L.length*n) 0 k q=_
  unfold DB
  rw[e1,AG,e2,AG,A2,A2,A2]
  show q (.l id g (0+0*n) (k-0) (0+k*n) (GO n k L.length))=_
  simp
def wa (P:Program) (z:List V) (x:V) (h:H) (N:Nx):Prop:=HM P (fun k=>vL x (fun _=>k (.tu []) h) fun id g off len fin _=>HH len (fun _=>k (.tu []) h) fun n=>store h id g off fin (DX z n) fun h=>k (.tu []) h) N
theorem RO {x:O} {z:List V} {t:F}:OR P (D4 z x) t h N=wa P z (oV x t) h N:=FM fun cf k=>by simp only[D4,Aq]
theorem II (e:α):∀ m,DX (c e) m=(List.replicate m e).flatMap c
 |0=>rfl
 |m+1=>by rw[List.replicate_succ,List.flatMap_cons,<-II e m];show app (c e) (DX (c e) m)=_;rw[Dj]
/--clear(v[k:]) -/
theorem Gr.xp {z:α} (a:Gr el n c h v L) (hc:∀ e,(c e).length=n) (hn:1<=n) (hk:k<L.length) (hl:L.length*n<2 ^ 36) (h1:∀ m,Bx (DX (c z) m)=true):
 ∃ u,(∀ (g:H) (N:Nx),H2 P (E3 n) v (.i .i64 (k:Int)) g N=N.go P u g)/\∀ N:Nx,(∀ h',Gr el n c h' v (L.take k++List.replicate (L.length-k) z)->AU (Am v) h h'->N.go P (.tu []) h')->wa P (c z) u h N:=by
 rcases a with⟨rfl,rfl⟩|⟨id,g,off,fin,rfl,rfl,_⟩|⟨id,g,cap,Ak,rfl,a1,a2,a3,a4,a5,a6,a7,a8,a9,a10,a11⟩
 ·simp at hk
 ·simp at hk
 obtain⟨_,rfl⟩:1<=L.length/\cap=none:=by
  rcases a2 with h|h
  ·exact h
  ·omega
 have hkn:k*n+(L.length-k)*n=L.length*n:=by rw[<-Nat.add_mul];congr 1;omega
 refine⟨.l id g (k*n) (L.length-k) (L.length*n) none,fun g0 N=>Ai fun q=>?_,fun N kk=>?_⟩
 ·have e0:Nat.ble k L.length=true:=by rw[Nat.ble_eq];omega
  have e1:Nat.ble L.length L.length=true:=by rw[Nat.ble_eq];exact Nat.le_refl _
  have e2:Nat.beq (L.length*n) (Nat.add 0 (Nat.mul L.length n))=true:=by
   rw[show Nat.add 0 (Nat.mul L.length n)=L.length*n by show 0+L.length*n=_;omega];exact Nat.beq_refl _
  unfold E3
  simp only[C0,Cw,Ba,e0,AG]
  show DB n id g 0 L.length (L.length*n) k L.length q=_
  unfold DB
  rw[e1,AG,e2,AG,A2,A2,A2,IH]
  show q (.l id g (0+k*n) (L.length-k) (0+L.length*n) none)=_
  simp
 ·have hrl:(DX (c z) (L.length-k)).length=(L.length-k)*n:=by rw[D8,hc]
  obtain⟨h',tr,b1,b2,b3,b4,b5,b6⟩:=Ke (off:=k*n) (fin:=L.length*n) (vs:=DX (c z) (L.length-k)) a5 a7 a6 a10 a3 (by rw[hrl];omega) (by rw[hrl];omega) (h1 _)
  have hlen:(L.take k++List.replicate (L.length-k) z).length=L.length:=by simp;omega
  refine DQ (v:=.tu []) (h':=h') (fun q=>?_) (kk h' (.inr (.inr ⟨id,g,none,_,by rw[hlen],by rw[Cn hc],.inl ⟨by rw[hlen];omega,rfl⟩,by rw[b5.floor];exact a3,by rw[b6];exact a4,b2,Nat.le_refl _,rfl,by rw[hlen];exact a8,a9,rfl,fun i y hy=>?_⟩)) (b5.mono fun q _ e=>by rw[e];exact⟨_,_,_,_,_,rfl⟩))
  ·show HH (L.length-k) _ _=_
   obtain⟨m,hm⟩:∃ m,L.length-k=m+1:=⟨L.length-k-1,by omega⟩
   rw[hm]
   show store h id g (k*n) (L.length*n) (DX (c z) (m+1)) (fun h=>q (.tu []) h)=_
   rw[<-hm,b1]
  ·show tr.BL i=some y
   rw[List.flatMap_append,<-II]at hy
   have hkl:((L.take k).flatMap c).length=k*n:=by rw[Cn hc,List.length_take];congr 1;omega
   by_cases hi:i<k*n
   ·rw[b4 i (.inl hi)]
    refine a11 i y ?_
    rw[List.getElem?_append_left (by rw[hkl];exact hi),Iy hc,List.getElem?_take,if_pos hi]at hy
    exact hy
   ·rw[List.getElem?_append_right (by rw[hkl];omega),hkl]at hy
    have:=b3 (i-k*n) y hy
    rwa [show k*n+(i-k*n)=i by omega]at this
end
end Go.Ev
namespace Go.Ev
open Go
/--digits that are no number -/
def qo (l:List UInt8):Prop:=l.head? =some 0\/9223372036854775808<=pk l
instance (l:List UInt8):Decidable (qo l):=by unfold qo;exact inferInstance
end Go.Ev
namespace Go.Ev
open Go
structure fM where
 key:List UInt8
 seq:Int
 del:Bool
 val:List UInt8
deriving DecidableEq
def vg:fM:=⟨[],0,false,[]⟩
instance:Inhabited fM:=⟨vg⟩
def jy (e:fM):List V:=[sv e.key,.i .i64 e.seq,.b e.del,sv e.val]
theorem Hg (e:fM):(jy e).length=4:=rfl
def Es (h:H) (v:V) (L:List fM):Prop:=Ss 4 jy h v L
section
variable {P:Program} {h h' g':H} {N:Nx} {v:V} {L:List fM} {i d:Nat}
theorem Es.l0 (a:Es h v L) (hi:i<L.length):L1 P (Fb v) (lg v) (Cf v+i*4) (Cg v) h N=N.go P (sv (L.getD i default).key) h:=Ss.ld (d:=0) a Hg hi (by omega)
theorem Es.l1 (a:Es h v L) (hi:i<L.length):L1 P (Fb v) (lg v) (Cf v+i*4+1) (Cg v) h N=N.go P (.i .i64 (L.getD i default).seq) h:=Ss.ld (d:=1) a Hg hi (by omega)
theorem Es.l2 (a:Es h v L) (hi:i<L.length):L1 P (Fb v) (lg v) (Cf v+i*4+2) (Cg v) h N=N.go P (.b (L.getD i default).del) h:=Ss.ld (d:=2) a Hg hi (by omega)
theorem Es.l3 (a:Es h v L) (hi:i<L.length):L1 P (Fb v) (lg v) (Cf v+i*4+3) (Cg v) h N=N.go P (sv (L.getD i default).val) h:=Ss.ld (d:=3) a Hg hi (by omega)
theorem Es.grow (a:Es h v L) (s:AU AQ h h'):Es h' v L:=Ss.grow a s
end
section
variable {k v:List UInt8} {d:Bool}
end
theorem Dh {x y:UInt8} {a b:List UInt8}:Op.bytesLess (x::a) (y::b)=true↔x.toNat<y.toNat\/(x=y/\Op.bytesLess a b=true):=by
 simp only[Op.bytesLess,Bool.or_eq_true,Bool.and_eq_true,decide_eq_true_eq,beq_iff_eq,UInt8.lt_iff_toNat_lt]
theorem JQ:∀ l:List UInt8,Op.bytesLess l l=false
 |[]=>rfl
 |c::l=>by
  cases h:Op.bytesLess (c::l) (c::l)with
  |false=>rfl
  |true=>
   rcases Dh.1 h with h|⟨_,h⟩
   ·omega
   ·rw[JQ l]at h;cases h
theorem JP:∀ {a b c:List UInt8},Op.bytesLess a b=true->Op.bytesLess b c=true->Op.bytesLess a c=true
 |a,[],c,h,_=>by cases a<;>cases h
 |_,_::_,[],_,h=>by cases h
 |[],_::_,_::_,_,_=>rfl
 |x::a,y::b,z::c,h,g=>by
  rcases Dh.1 h with h1|⟨h1,h2⟩<;>rcases Dh.1 g with g1|⟨g1,g2⟩
  ·exact Dh.2 (.inl (by omega))
  ·exact Dh.2 (.inl (by rw[<-g1];exact h1))
  ·exact Dh.2 (.inl (by rw[h1];exact g1))
  ·exact Dh.2 (.inr ⟨h1.trans g1,JP h2 g2⟩)
theorem LS {a b:List UInt8} (h:Op.bytesLess a b=true):Op.bytesLess b a=false:=by
 cases g:Op.bytesLess b a with
 |false=>rfl
 |true=>have:=JP h g;rw[JQ]at this;cases this
theorem HT:∀ {a b:List UInt8},a≠b->Op.bytesLess a b=true\/Op.bytesLess b a=true
 |[],[],h=>absurd rfl h
 |[],_::_,_=>.inl rfl
 |_::_,[],_=>.inr rfl
 |x::a,y::b,h=>by
  by_cases e:x=y
  ·subst e
   rcases HT (a:=a) (b:=b) (fun e=>h (by rw[e]))with g|g
   ·exact .inl (Dh.2 (.inr ⟨rfl,g⟩))
   ·exact .inr (Dh.2 (.inr ⟨rfl,g⟩))
  ·have:x.toNat≠y.toNat:=fun g=>e (UInt8.toNat_inj.1 g)
   rcases Nat.lt_or_ge x.toNat y.toNat with g|g
   ·exact .inl (Dh.2 (.inl g))
   ·exact .inr (Dh.2 (.inl (by omega)))
section
variable {s k v:List UInt8} {n m j:Nat} {q e:Int}
end
end Go.Ev
namespace Go.Ev
open Go
structure BN where
 id:Int
 A8:Int
 fst:List UInt8
 Da:List UInt8
 ER:Int
deriving DecidableEq
def ZE:BN:=⟨0,0,[],[],0⟩
instance:Inhabited BN:=⟨ZE⟩
def Lb (t:BN):List V:=[.i .i64 t.id,.i .i64 t.A8,sv t.fst,sv t.Da,.i .i64 t.ER]
theorem Be (t:BN):(Lb t).length=5:=rfl
def E9 (h:H) (v:V) (L:List BN):Prop:=Ss 5 Lb h v L
section
variable {P:Program} {h h' g':H} {N:Nx} {v:V} {L:List BN} {i d:Nat}
theorem E9.ln (a:E9 h v L):H1 P Lv v g' N=N.go P (.i .i64 (L.length:Int)) g':=Ss.ln a
theorem E9.ix (a:E9 h v L) (hi:i<L.length):IX P 5 v i g' N=N.go P (.p (Fb v) (lg v) (Cf v+i*5) (Cg v)) g':=Ss.ix a hi
theorem E9.l0 (a:E9 h v L) (hi:i<L.length):L1 P (Fb v) (lg v) (Cf v+i*5) (Cg v) h N=N.go P (.i .i64 (L.getD i default).id) h:=Ss.ld (d:=0) a Be hi (by omega)
theorem E9.l1 (a:E9 h v L) (hi:i<L.length):L1 P (Fb v) (lg v) (Cf v+i*5+1) (Cg v) h N=N.go P (.i .i64 (L.getD i default).A8) h:=Ss.ld (d:=1) a Be hi (by omega)
theorem E9.l2 (a:E9 h v L) (hi:i<L.length):L1 P (Fb v) (lg v) (Cf v+i*5+2) (Cg v) h N=N.go P (sv (L.getD i default).fst) h:=Ss.ld (d:=2) a Be hi (by omega)
theorem E9.l3 (a:E9 h v L) (hi:i<L.length):L1 P (Fb v) (lg v) (Cf v+i*5+3) (Cg v) h N=N.go P (sv (L.getD i default).Da) h:=Ss.ld (d:=3) a Be hi (by omega)
theorem E9.la (a:E9 h v L) (hi:i<L.length):LN P (Fb v) (lg v) (Cf v+i*5) (Cg v) 5 h N=N.go P (.a [.i .i64 (L.getD i default).id,.i .i64 (L.getD i default).A8,sv (L.getD i default).fst,sv (L.getD i default).Da,.i .i64 (L.getD i default).ER]) h:=Ss.wU a Be (by omega) hi
theorem E9.grow (a:E9 h v L) (s:AU AQ h h'):E9 h' v L:=Ss.grow a s
end
def Mn (a b:Int):Int:=if a<b then -1 else if b<a then 1 else 0
/--how two are held against each other -/
def Ji (a b:BN):Int:=if a.A8=b.A8 then (if a.A8=0 then Mn b.id a.id else Io (decide (a.fst=b.fst)) (Op.bytesLess a.fst b.fst))else Mn a.A8 b.A8
def Gx (a b:BN):Bool:=if a.A8=b.A8 then (if a.A8=0 then decide (b.id<a.id)else Op.bytesLess a.fst b.fst)else decide (a.A8<b.A8)
theorem PF {a b:Int}:(Mn a b<0)=(a<b):=by
 unfold Mn
 by_cases h1:a<b
 ·rw[if_pos h1];simp[h1]
 ·rw[if_neg h1]
  by_cases h2:b<a
  ·rw[if_pos h2];simp;omega
  ·rw[if_neg h2];simp;omega
theorem aW {a b:List UInt8} (h:Op.bytesLess a b=true):a≠b:=fun e=>by rw[e,JQ]at h;cases h
theorem PE {a b:BN}:(Ji a b<0)=(Gx a b=true):=by
 unfold Ji Gx
 by_cases h1:a.A8=b.A8
 ·rw[if_pos h1,if_pos h1]
  by_cases h2:a.A8=0
  ·rw[if_pos h2,if_pos h2,PF];simp
  ·rw[if_neg h2,if_neg h2]
   cases hb:Op.bytesLess a.fst b.fst with
   |true=>rw[decide_eq_false (aW hb)];exact propext ⟨fun _=>rfl,fun _=>by decide⟩
   |false=>
    by_cases e:a.fst=b.fst
    ·rw[decide_eq_true e];exact propext ⟨fun h=>absurd h (by decide),fun h=>by cases h⟩
    ·rw[decide_eq_false e];exact propext ⟨fun h=>absurd h (by decide),fun h=>by cases h⟩
 ·rw[if_neg h1,if_neg h1,PF];simp
theorem aM {a b:BN} (h:Gx a b=true):(Ji a b<0)=True:=by rw[PE,h];simp
theorem eU {a b:BN} (h:Gx a b=false):(Ji a b<0)=False:=by rw[PE,h];simp
theorem HN {a b:BN} (h:Gx a b=true):Gx b a=false:=by
 unfold Gx at*
 by_cases h1:a.A8=b.A8
 ·rw[if_pos h1]at h
  rw[if_pos h1.symm]
  by_cases h2:a.A8=0
  ·rw[if_pos h2]at h;rw[if_pos (by omega)];simp at h⊢;omega
  ·rw[if_neg h2]at h;rw[if_neg (by omega)];exact LS h
 ·rw[if_neg h1]at h;rw[if_neg (Ne.symm h1)];simp at h⊢;omega
theorem Re {a b c:List UInt8} (h1:Op.bytesLess a b=false) (h2:Op.bytesLess b c=false):Op.bytesLess a c=false:=by
 cases h:Op.bytesLess a c with
 |false=>rfl
 |true=>
  exfalso
  by_cases e1:a=b
  ·subst e1;rw[h]at h2;cases h2
  ·rcases HT e1 with h3|h3
   ·rw[h3]at h1;cases h1
   ·by_cases e2:b=c
    ·subst e2;rw[h]at h1;cases h1
    ·rw[JP h3 h]at h2;cases h2
theorem SK {a b c:BN} (h1:Gx a b=false) (h2:Gx b c=false):Gx a c=false:=by
 unfold Gx at*
 by_cases e1:a.A8=b.A8
 ·rw[if_pos e1]at h1
  by_cases e2:b.A8=c.A8
  ·rw[if_pos e2]at h2;rw[if_pos (e1.trans e2)]
   by_cases e3:a.A8=0
   ·rw[if_pos e3]at h1⊢;rw[if_pos (by omega)]at h2;simp at h1 h2⊢;omega
   ·rw[if_neg e3]at h1⊢;rw[if_neg (by omega)]at h2;exact Re h1 h2
  ·rw[if_neg e2]at h2;rw[if_neg (by omega)];simp at h2⊢;omega
 ·rw[if_neg e1]at h1
  by_cases e2:b.A8=c.A8
  ·rw[if_neg (by omega)];simp at h1⊢;omega
  ·rw[if_neg e2]at h2
   simp at h1 h2
   rw[if_neg (by omega)];simp;omega
/--of two of L,by their places -/
def Cb (L:List BN) (x y:Nat):Bool:=Gx (L.getD x default) (L.getD y default)
theorem Dk (L:List BN):Ord (Cb L):=⟨fun h=>HN h,fun h1 h2=>SK h1 h2⟩
theorem Ds {L:List BN} {x y:Nat} (h:Cb L x y=true):(Ji (L.getD x default) (L.getD y default)<0)=True:=aM h
theorem D3 {L:List BN} {x y:Nat} (h:Cb L x y=false):(Ji (L.getD x default) (L.getD y default)<0)=False:=eU h
end Go.Ev
namespace Go.Proofs.Ytobfgempjekjpaa
open Go Go.Ev
theorem iZ:Try.prog.follows .mixedOrders=true:=by kernel_rfl
open Go.Ev in
instance {nt:Nat} {t:F} {h:H} {K:X->F->H->Prop} {l:List CO} {ch:Option (List Nat×List (Nat×List Nat))}:St (Ok Try.prog nt (.A7 l ch) t h K) (DO Try.prog l t h (K .normal)):=⟨Ok.dw iZ⟩
end Go.Proofs.Ytobfgempjekjpaa
set_option maxRecDepth 100000
set_option maxHeartbeats 8000000
namespace Go.Proofs.Ytobfgempjekjpaa
open Go Go.Ev
theorem SL {h:H} {x y:List UInt8}:BO Try.prog 92 [sv x,sv y] h fun z h'=>z=.i .i64 (Io (decide (x=y)) (Op.bytesLess x y))/\h'=h:=by
 refine BK xo (by intro hb;cases hb) (by simp) (by simp) fun Q hQ=>?_
 simp only[Av,Nat.reduceAdd]
 repeat' (first
  |refine St.h ?_
  |simp(disch:=first|omega|(simp only[AJ];omega))only[AI,↓AB,↓reduceIte,seval]
  |(with_reducible (first|apply AD|apply AE))<;>(intro hc;(try simp only[Ab]at hc);(try simp only[hc]);(try simp only[Aa]at hc);try omega))
 subst hQ
 exact⟨rfl,rfl⟩
theorem SV {h:H} {x y:List UInt8}:BO Try.prog 78 [sv x,sv y] h fun z h'=>z=.i .i64 (Io (decide (x=y)) (Op.bytesLess x y))/\h'=h:=by
 refine BK wo (by intro hb;cases hb) (by simp) (by simp) fun Q hQ=>?_
 simp only[Av,Nat.reduceAdd]
 repeat' (first
  |refine St.h ?_
  |simp(disch:=first|omega|(simp only[AJ];omega))only[AI,↓AB,↓reduceIte,seval]
  |(with_reducible (first|apply AD|apply AE))<;>(intro hc;(try simp only[Ab]at hc);(try simp only[hc]);(try simp only[Aa]at hc);try omega))
 refine CL.pure SL ?_
 repeat' (first
  |refine St.h ?_
  |simp(disch:=first|omega|(simp only[AJ];omega))only[AI,↓AB,↓reduceIte,seval]
  |(with_reducible (first|apply AD|apply AE))<;>(intro hc;(try simp only[Ab]at hc);(try simp only[hc]);(try simp only[Aa]at hc);try omega))
 subst hQ
 exact⟨rfl,rfl⟩
theorem Oz {h:H} {x:Int}:BO Try.prog 91 [.i .i64 x] h fun z h'=>z=.b false/\h'=h:=by
 refine BK xW (by intro hb;cases hb) (by simp) (by simp) fun Q hQ=>?_
 simp only[Av,Nat.reduceAdd]
 repeat' (first
  |refine St.h ?_
  |simp(disch:=first|omega|(simp only[AJ];omega))only[AI,↓AB,↓reduceIte,seval]
  |(with_reducible (first|apply AD|apply AE))<;>(intro hc;(try simp only[Ab]at hc);(try simp only[hc]);(try simp only[Aa]at hc);try omega))
 subst hQ
 exact⟨by simp,rfl⟩
theorem Md {h:H} {x y:Int}:BO Try.prog 77 [.i .i64 x,.i .i64 y] h fun z h'=>z=.i .i64 (Mn x y)/\h'=h:=by
 refine BK yO (by intro hb;cases hb) (by simp) (by simp) fun Q hQ=>?_
 simp only[Av,Nat.reduceAdd]
 repeat' (first
  |refine St.h ?_
  |simp(disch:=first|omega|(simp only[AJ];omega))only[AI,↓AB,↓reduceIte,seval]
  |(with_reducible (first|apply AD|apply AE))<;>(intro hc;(try simp only[Ab]at hc);(try simp only[hc]);(try simp only[Aa]at hc);try omega))
 refine CL.pure Oz ?_
 repeat' (first
  |refine St.h ?_
  |simp(disch:=first|omega|(simp only[AJ];omega))only[AI,↓AB,↓reduceIte,seval]
  |(with_reducible (first|apply AD|apply AE))<;>(intro hc;(try simp only[Ab]at hc);(try simp only[hc]);(try simp only[Aa]at hc);try omega))
 refine CL.pure Oz ?_
 by_cases h1:x<y
 ·repeat' (first
   |refine St.h ?_
   |simp(disch:=first|omega|(simp only[AJ];omega))only[AI,↓AB,↓reduceIte,seval,h1]
   |(with_reducible (first|apply AD|apply AE))<;>(intro hc;(try simp only[Ab]at hc);(try simp only[hc]);(try simp only[Aa]at hc);try omega))
  subst hQ
  exact⟨by unfold Mn;rw[if_pos h1],rfl⟩
 ·have d1:(x<y)=False:=eq_false h1
  by_cases h2:y<x
  ·repeat' (first
    |refine St.h ?_
    |simp(disch:=first|omega|(simp only[AJ];omega))only[AI,↓AB,↓reduceIte,seval,d1,h2]
    |(with_reducible (first|apply AD|apply AE))<;>(intro hc;(try simp only[Ab]at hc);(try simp only[hc]);(try simp only[Aa]at hc);try omega))
   subst hQ
   exact⟨by unfold Mn;rw[if_neg h1,if_pos h2],rfl⟩
  ·have d2:(y<x)=False:=eq_false h2
   repeat' (first
    |refine St.h ?_
    |simp(disch:=first|omega|(simp only[AJ];omega))only[AI,↓AB,↓reduceIte,seval,d1,d2]
    |(with_reducible (first|apply AD|apply AE))<;>(intro hc;(try simp only[Ab]at hc);(try simp only[hc]);(try simp only[Aa]at hc);try omega))
   subst hQ
   exact⟨by unfold Mn;rw[if_neg h1,if_neg h2],rfl⟩
theorem Bp {h:H} {a b:BN} (hf:B.val h.floor<=B.val h.next):BO Try.prog 64 [.a [.i .i64 a.id,.i .i64 a.A8,sv a.fst,sv a.Da,.i .i64 a.ER],.a [.i .i64 b.id,.i .i64 b.A8,sv b.fst,sv b.Da,.i .i64 b.ER]] h fun y h'=>y=.i .i64 (Ji a b)/\AU AQ h h':=by
 refine BK yp (by intro hb;cases hb) (by simp) (by simp) fun Q hQ=>?_
 simp only[Av,Nat.reduceAdd]
 repeat' (first
  |refine St.h ?_
  |simp(disch:=first|omega|(simp only[AJ];omega))only[AI,↓AB,↓reduceIte,seval]
  |(with_reducible (first|apply AD|apply AE))<;>(intro hc;(try simp only[Ab]at hc);(try simp only[hc]);(try simp only[Aa]at hc);try omega))
 refine AL.own (by simp) hf fun h1 s1 n1 o1=>?_
 repeat' (first
  |refine St.h ?_
  |simp(disch:=first|omega|(simp only[AJ];omega))only[AI,↓AB,↓reduceIte,seval]
  |(with_reducible (first|apply AD|apply AE))<;>(intro hc;(try simp only[Ab]at hc);(try simp only[hc]);(try simp only[Aa]at hc);try omega))
 refine AL.own (by simp) (s1.fl hf) fun h2 s2 n2 o2=>?_
 have o1:=o1.stay s2 fun h=>h
 have r1:=o1.row
 have r2:=o2.row
 by_cases ht:a.A8=b.A8
 ·have d1:(a.A8=b.A8)=True:=eq_true ht
  by_cases h0:a.A8=0
  ·have d2:(b.A8=0)=True:=eq_true (by omega)
   repeat' (first
    |refine St.h ?_
    |simp(disch:=first|omega|(simp only[AJ];omega))only[AI,↓AB,↓reduceIte,seval,r1.l1,r2.l1,ht,d2]
    |(with_reducible (first|apply AD|apply AE))<;>(intro hc;(try simp only[Ab]at hc);(try simp only[hc]);(try simp only[Aa]at hc);try omega))
   refine CL.pure Md ?_
   repeat' (first
    |refine St.h ?_
    |simp(disch:=first|omega|(simp only[AJ];omega))only[AI,↓AB,↓reduceIte,seval]
    |(with_reducible (first|apply AD|apply AE))<;>(intro hc;(try simp only[Ab]at hc);(try simp only[hc]);(try simp only[Aa]at hc);try omega))
   subst hQ
   exact⟨by unfold Ji;rw[if_pos ht,if_pos h0],s1.trans s2⟩
  ·have d2:(b.A8=0)=False:=eq_false (by omega)
   repeat' (first
    |refine St.h ?_
    |simp(disch:=first|omega|(simp only[AJ];omega))only[AI,↓AB,↓reduceIte,seval,r1.l1,r2.l1,ht,d2]
    |(with_reducible (first|apply AD|apply AE))<;>(intro hc;(try simp only[Ab]at hc);(try simp only[hc]);(try simp only[Aa]at hc);try omega))
   refine CL.pure SV ?_
   repeat' (first
    |refine St.h ?_
    |simp(disch:=first|omega|(simp only[AJ];omega))only[AI,↓AB,↓reduceIte,seval]
    |(with_reducible (first|apply AD|apply AE))<;>(intro hc;(try simp only[Ab]at hc);(try simp only[hc]);(try simp only[Aa]at hc);try omega))
   subst hQ
   exact⟨by unfold Ji;rw[if_pos ht,if_neg h0],s1.trans s2⟩
 ·have d1:(a.A8=b.A8)=False:=eq_false ht
  repeat' (first
   |refine St.h ?_
   |simp(disch:=first|omega|(simp only[AJ];omega))only[AI,↓AB,↓reduceIte,seval,r1.l1,r2.l1,d1]
   |(with_reducible (first|apply AD|apply AE))<;>(intro hc;(try simp only[Ab]at hc);(try simp only[hc]);(try simp only[Aa]at hc);try omega))
  refine CL.pure Md ?_
  repeat' (first
   |refine St.h ?_
   |simp(disch:=first|omega|(simp only[AJ];omega))only[AI,↓AB,↓reduceIte,seval]
   |(with_reducible (first|apply AD|apply AE))<;>(intro hc;(try simp only[Ab]at hc);(try simp only[hc]);(try simp only[Aa]at hc);try omega))
  subst hQ
  exact⟨by unfold Ji;rw[if_neg ht],s1.trans s2⟩
/--a row of tables of one's own -/
def Rt (h:H) (v:V) (L:List BN):Prop:=Gr 57 5 Lb h v L
theorem Rt.DY {h:H} {v:V} {L:List BN} (a:Rt h v L):E9 h v L:=Gr.ss a
theorem Rt.grow {h h':H} {v:V} {L:List BN} (a:Rt h v L) (s:AU AQ h h'):Rt h' v L:=Gr.grow a s
theorem Bh {h h':H} {p:B->Prop} (s:AU AQ h h'):AU p h h':=s.mono fun _ _ e=>e.elim
section
variable {L:List BN} {N:Nat}
/--l[i],l[j]=l[j],l[i]:the first store -/
theorem ST.MC {P:Program} {h:H} {K:Nx} {v:V} {p:Nat->Nat} {i j:Nat} (rb:Rt h v (Bj L p N)) (hN:N<=1000) (hi:i<N)
 (k:∀ h',Rt h' v ((Bj L p N).set i (L.getD (p j) default))->AU (Am v) h h'->K.go P (.tu []) h'):ST P 5 (.p (Fb v) (lg v) (Cf v+i*5) (Cg v)) (.a [.i .i64 (L.getD (p j) default).id,.i .i64 (L.getD (p j) default).A8,sv (L.getD (p j) default).fst,sv (L.getD (p j) default).Da,.i .i64 (L.getD (p j) default).ER]) h K:=
 ST.gr (y:=L.getD (p j) default) rb Be (by omega) (by rw[CJ];exact hi) (by rw[CJ];omega) rfl k
/--and the second one -/
theorem ST.G2 {P:Program} {h:H} {K:Nx} {v:V} {p:Nat->Nat} {i j:Nat} (rb:Rt h v ((Bj L p N).set i (L.getD (p j) default))) (hN:N<=1000) (hj:j<N)
 (k:∀ h',Rt h' v (Bj L (Gt p i j) N)->AU (Am v) h h'->K.go P (.tu []) h'):ST P 5 (.p (Fb v) (lg v) (Cf v+j*5) (Cg v)) (.a [.i .i64 (L.getD (p i) default).id,.i .i64 (L.getD (p i) default).A8,sv (L.getD (p i) default).fst,sv (L.getD (p i) default).Da,.i .i64 (L.getD (p i) default).ER]) h K:=by
 refine ST.gr (y:=L.getD (p i) default) rb Be (by omega) (by rw[List.length_set,CJ];exact hj) (by rw[List.length_set,CJ];omega) rfl fun h' r s=>k h' ?_ s
 rw[O3]at r;exact r
theorem Pz {h:H} {v:V} {p:Nat->Nat} {a b:Nat} (hb:Rt h v (Bj L p N)) (hN:N<=1000) (h1:a<=b) (h2:b<=N) (hf:B.val h.floor<=B.val h.next):BO Try.prog 81 [v,.i .i64 (a:Int),.i .i64 (b:Int),.f 64 []] h fun y h'=>
 ∃ q,Dn a b p q/\Gq (Cb L) q a b/\Rt h' v (Bj L q N)/\AU (Am v) h h':=by
 refine BK yD (by intro hb;cases hb) (by simp) (by simp) fun Q hQ=>?_
 simp only[Av,Nat.reduceAdd]
 repeat' (first
  |refine St.h ?_
  |simp(disch:=first|omega|(simp only[AJ];omega))only[AI,↓AB,↓reduceIte,seval]
  |(with_reducible (first|apply AD|apply AE))<;>(intro hc;(try simp only[Ab]at hc);(try simp only[hc]);(try simp only[Aa]at hc);try omega))
 by_cases hab:a<b
 case neg=>
  refine Ok.lp (fun m t g=>m=0/\h=g/\get 2 t=.i .i64 (b:Int)/\get 8 t=.i .i64 ((a:Int)+1)) 0 ?_ ?_
  ·simp(disch:=first|omega|(simp only[AJ];omega))only[AI,↓AB,↓reduceIte,seval]
   repeat' (first|trivial|rfl|refine And.intro ?_ ?_)
  rintro I hI m t g ⟨rfl,rfl,f2,f8⟩
  have d1:((a:Int)+1<(b:Int))=False:=eq_false (by omega)
  repeat' (first
   |refine St.h ?_
   |simp(disch:=first|omega|(simp only[AJ];omega))only[AI,↓AB,↓reduceIte,seval,f2,f8,d1]
   |(with_reducible (first|apply AD|apply AE))<;>(intro hc;(try simp only[Ab]at hc);(try simp only[hc]);(try simp only[Aa]at hc);try omega))
  subst hQ
  exact⟨p,.refl _,fun i j h1 h2 h3=>by omega,hb,⟨rfl,Nat.le_refl _,fun _ _ _=>rfl⟩⟩
 refine Ok.lp (fun m t g=>∃ (i:Nat) (q:Nat->Nat),m=b-i/\a+1<=i/\i<=b/\get 0 t=v/\get 1 t=.i .i64 (a:Int)/\get 2 t=.i .i64 (b:Int)/\get 3 t=.f 64 []/\get 8 t=.i .i64 (i:Int)/\Dn a b p q/\Gq (Cb L) q a i/\Rt g v (Bj L q N)/\AU (Am v) h g) (b-(a+1)) ?_ ?_
 ·simp(disch:=first|omega|(simp only[AJ];omega))only[AI,↓AB,↓reduceIte,seval]
  refine⟨a+1,p,by omega,by omega,by omega,?_⟩
  refine⟨?_,?_,?_,?_,?_,.refl _,fun i j h1 h2 h3=>by omega,hb,⟨rfl,Nat.le_refl _,fun _ _ _=>rfl⟩⟩
  all_goals first|trivial|rfl
 rintro I hI m t g ⟨i,q,rfl,hi1,hi2,f0,f1,f2,f3,f8,hper,hs,rb,st⟩
 have hfg:=st.fl hf
 by_cases hib:i<b
 case neg=>
  obtain rfl:i=b:=by omega
  repeat' (first
   |refine St.h ?_
   |simp(disch:=first|omega|(simp only[AJ];omega))only[AI,↓AB,↓reduceIte,seval,f0,f1,f2,f3,f8]
   |(with_reducible (first|apply AD|apply AE))<;>(intro hc;(try simp only[Ab]at hc);(try simp only[hc]);(try simp only[Aa]at hc);try omega))
  subst hQ
  exact⟨q,hper,hs,rb,st⟩
 repeat' (first
  |refine St.h ?_
  |simp(disch:=first|omega|(simp only[AJ];omega))only[AI,↓AB,↓reduceIte,seval,f0,f1,f2,f3,f8]
  |(with_reducible (first|apply AD|apply AE))<;>(intro hc;(try simp only[Ab]at hc);(try simp only[hc]);(try simp only[Aa]at hc);try omega))
 refine Ok.lp (fun m t g=>∃ (j:Nat) (q:Nat->Nat),m=j/\a<=j/\j<=i/\get 0 t=v/\get 1 t=.i .i64 (a:Int)/\get 2 t=.i .i64 (b:Int)/\get 3 t=.f 64 []/\get 8 t=.i .i64 (i:Int)/\get 9 t=.i .i64 (j:Int)/\Ps (Cb L) q a i j/\Dn a b p q/\Rt g v (Bj L q N)/\AU (Am v) h g) i ?_ ?_
 ·simp(disch:=first|omega|(simp only[AJ];omega))only[AI,↓AB,↓reduceIte,seval,f0,f1,f2,f3,f8]
  refine⟨i,q,by omega,by omega,by omega,?_⟩
  refine⟨?_,?_,?_,?_,?_,?_,Ov hs,hper,rb,st⟩
  all_goals first|trivial|rfl
 rintro I2 hI2 m2 t2 g2 ⟨j,q2,rfl,hj1,hj2,e0,e1,e2,e3,e8,e9,hM,hper2,rb2,st2⟩
 have hfg2:=st2.fl hf
 have done:∀ g3,Rt g3 v (Bj L q2 N)->AU (Am v) h g3->(m2=a\/Cb L (q2 m2) (q2 (m2-1))=false)->∀ t3:F,get 0 t3=v->get 1 t3=.i .i64 (a:Int)->get 2 t3=.i .i64 (b:Int)->get 3 t3=.f 64 []->get 8 t3=.i .i64 ((i+1:Nat):Int)->Zg I (b-i) t3 g3:=fun g3 r3 s3 hd t3 x0 x1 x2 x3 x8=>by
  exact Aw hI (b-(i+1)) (by omega) ⟨i+1,q2,rfl,by omega,by omega,x0,x1,x2,x3,x8,hper2,JF (Dk L) hM hj2 hd hj1,r3,s3⟩
 by_cases hja:a<m2
 case neg=>
  obtain rfl:m2=a:=by omega
  have d1:((m2:Int)<(m2:Int))=False:=eq_false (by omega)
  repeat' (first
   |refine St.h ?_
   |simp(disch:=first|omega|(simp only[AJ];omega))only[AI,↓AB,↓reduceIte,seval,e0,e1,e2,e3,e8,e9,d1]
   |(with_reducible (first|apply AD|apply AE))<;>(intro hc;(try simp only[Ab]at hc);(try simp only[hc]);(try simp only[Aa]at hc);try omega))
  exact done _ rb2 st2 (.inl rfl) _ (by simp(disch:=first|omega|(simp only[AJ];omega))only[AI,↓AB,↓reduceIte,seval,e0]) (by simp(disch:=first|omega|(simp only[AJ];omega))only[AI,↓AB,↓reduceIte,seval,e1]) (by simp(disch:=first|omega|(simp only[AJ];omega))only[AI,↓AB,↓reduceIte,seval,e2]) (by simp(disch:=first|omega|(simp only[AJ];omega))only[AI,↓AB,↓reduceIte,seval,e3]) (by simp(disch:=first|omega|(simp only[AJ];omega))only[AI,↓AB,↓reduceIte,seval,e8];rfl)
 have d1:((a:Int)<(m2:Int))=True:=eq_true (by omega)
 obtain⟨n,rfl⟩:∃ n,m2=n+1:=⟨m2-1,by omega⟩
 have en:(((n+1:Nat):Int)-1).toNat=n:=by omega
 have W2:=rb2.DY
 have ln:(Bj L q2 N).length=N:=CJ
 have ga:(Bj L q2 N).getD (n+1) default=L.getD (q2 (n+1)) default:=By (by omega)
 have gb:(Bj L q2 N).getD n default=L.getD (q2 n) default:=By (by omega)
 repeat' (first
  |refine St.h ?_
  |simp(disch:=first|omega|(simp only[AJ];omega))only[AI,↓AB,↓reduceIte,seval,e0,e1,e2,e3,e8,e9,d1,W2.ix,W2.la,en,ga,gb,Int.toNat_natCast]
  |(with_reducible (first|apply AD|apply AE))<;>(intro hc;(try simp only[Ab]at hc);(try simp only[hc]);(try simp only[Aa]at hc);try omega))
 refine CL.stay (Bp (a:=L.getD (q2 (n+1)) default) (b:=L.getD (q2 n) default) hfg2) fun g3 s3=>?_
 have rb3:=rb2.grow s3
 have st3:=st2.trans (Bh s3)
 have W3:=rb3.DY
 cases hk:Cb L (q2 (n+1)) (q2 n)with
 |false=>
  have d2:=D3 hk
  repeat' (first
   |refine St.h ?_
   |simp(disch:=first|omega|(simp only[AJ];omega))only[AI,↓AB,↓reduceIte,seval,e0,e1,e2,e3,e8,e9,d1,d2]
   |(with_reducible (first|apply AD|apply AE))<;>(intro hc;(try simp only[Ab]at hc);(try simp only[hc]);(try simp only[Aa]at hc);try omega))
  refine done _ rb3 st3 (.inr hk) _ (by simp(disch:=first|omega|(simp only[AJ];omega))only[AI,↓AB,↓reduceIte,seval,e0]) (by simp(disch:=first|omega|(simp only[AJ];omega))only[AI,↓AB,↓reduceIte,seval,e1]) (by simp(disch:=first|omega|(simp only[AJ];omega))only[AI,↓AB,↓reduceIte,seval,e2]) (by simp(disch:=first|omega|(simp only[AJ];omega))only[AI,↓AB,↓reduceIte,seval,e3]) (by simp(disch:=first|omega|(simp only[AJ];omega))only[AI,↓AB,↓reduceIte,seval,e8];rfl)
 |true=>
  have d2:=Ds hk
  repeat' (first
   |refine St.h ?_
   |simp(disch:=first|omega|(simp only[AJ];omega))only[AI,↓AB,↓reduceIte,seval,e0,e1,e2,e3,e8,e9,d1,d2,W3.ix,W3.la,en,ga,gb,Int.toNat_natCast]
   |(with_reducible (first|apply AD|apply AE))<;>(intro hc;(try simp only[Ab]at hc);(try simp only[hc]);(try simp only[Aa]at hc);try omega))
  refine ST.MC rb3 hN (by omega) fun h3 B3 s4=>?_
  have W4:=B3.DY
  repeat' (first
   |refine St.h ?_
   |simp(disch:=first|omega|(simp only[AJ];omega))only[AI,↓AB,↓reduceIte,seval,e0,e1,e2,e3,e8,e9,en,W4.ix]
   |(with_reducible (first|apply AD|apply AE))<;>(intro hc;(try simp only[Ab]at hc);(try simp only[hc]);(try simp only[Aa]at hc);try omega))
  refine ST.G2 B3 hN (by omega) fun h4 B4 s5=>?_
  repeat' (first
   |refine St.h ?_
   |simp(disch:=first|omega|(simp only[AJ];omega))only[AI,↓AB,↓reduceIte,seval,e0,e1,e2,e3,e8,e9]
   |(with_reducible (first|apply AD|apply AE))<;>(intro hc;(try simp only[Ab]at hc);(try simp only[hc]);(try simp only[Aa]at hc);try omega))
  have ez:((n+1:Nat):Int)-1=(n:Int):=by omega
  refine Aw hI2 n (by omega) ⟨n,Gt q2 (n+1) n,rfl,by omega,by omega,by simp(disch:=first|omega|(simp only[AJ];omega))only[AI,↓AB,↓reduceIte,seval,e0],by simp(disch:=first|omega|(simp only[AJ];omega))only[AI,↓AB,↓reduceIte,seval,e1],by simp(disch:=first|omega|(simp only[AJ];omega))only[AI,↓AB,↓reduceIte,seval,e2],by simp(disch:=first|omega|(simp only[AJ];omega))only[AI,↓AB,↓reduceIte,seval,e3],by simp(disch:=first|omega|(simp only[AJ];omega))only[AI,↓AB,↓reduceIte,seval,e8],by simp(disch:=first|omega|(simp only[AJ];omega))only[AI,↓AB,↓reduceIte,seval,ez,e9],OZ (Dk L) hM (by omega) hj2 hk,hper2.trans (.one (by omega) (by omega) (by omega) (by omega)),B4,st3.trans (s4.trans s5)⟩
end
end Go.Proofs.Ytobfgempjekjpaa
end
