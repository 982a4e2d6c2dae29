/- The law ItemTells, part 2: what its proof uses, closely written. No condition. -/
import Derived.Test.YtmlcddeikgechaaMnItemTells1
import Derived.Orders
import Derived.Scope
import Derived.HandedShaped
import Derived.Carry
import Derived.OpenShut
import Derived.Deep.Slices
import Derived.SliceStrings
noncomputable section
set_option linter.all false
namespace Go.Ev
open Go
/--the world,with another count of Bg -/
def dr (w:World) (d:Nat):World:={w with drawn:=d}
theorem Aw.dr {ρ:BF} {h:H} {w w0:World} (R:Aw ρ h w w0) (d:Nat):Aw ρ h (dr w d) w0:=
 ⟨R.loc,R.ids,R.sep,R.Kg,R.IH,R.up,R.tp,R.os,R.out,R.I1,R.mp,R.Mu⟩
theorem Ld (n:Nat):∀ (r c:Nat),Builtin.growBy n r c<=max c (n+(n+768)/4)
 |0,c=>Nat.le_max_left _ _
 |r+1,c=>by
  unfold Builtin.growBy
  split
  ·exact Nat.le_max_left _ _
  ·have:=Ld n r (c+(c+768)/4)
   omega
theorem Pf (need cap:Nat) (h:cap<need):Builtin.nextslicecap need cap<=2*need+192:=by
 unfold Builtin.nextslicecap
 split
 ·omega
 ·split
  ·omega
  ·have:=Ld need 4 cap
   omega
theorem EN (P:Program) (w w2:World) (t t' ty elem e':TypeId) (i:TypeInfo) (base:Option Addr) (sLen sCap n:Nat) (x:Value) (new:Array Value)
 (hu:P.underlying t=some (.slice elem)) (hu':P.underlying t'=some (.slice e')\/P.underlying t'=some .string) (hi:P.info? elem=some i) (hl:(Builtin.lenOf x).run P w=.ok n w)
 (hc:sLen+n<=sCap) (hnew:(Builtin.firstCells i.size n x).run P w=.ok new w)
 (hst:∀ a,base=some a->(storeCells (a.add (sLen*i.size)) new.toList).run P w=.ok () w2) (hno:base=none->w2=w):
 (Builtin.append_ #[t,t'] ty #[.slice base sLen sCap,x]).run P w=.ok (.slice base (sLen+n) sCap) w2:=by
 unfold Builtin.append_
 rcases hu' with hu'|hu'<;>simp only[List.getElem?_toArray,List.getElem?_cons_zero,List.getElem?_cons_succ,Sem.run_bind,run_underlying hu,run_underlying hu',Result.andThen_ok,Ax hi,Sem.run_pure',Bool.false_eq_true,if_false,hl,Bool.not_false,if_true,hc,hnew]
 all_goals cases base with
 |none=>rw[hno rfl];rfl
 |some a=>simp only[Sem.run_bind,hst a rfl,Result.andThen_ok];rfl
theorem FU (P:Program) (w:World) (t t' ty elem e':TypeId) (i:TypeInfo) (zv:Value) (base:Option Addr) (sLen sCap n:Nat) (x:Value) (IH new:Array Value)
 (hu:P.underlying t=some (.slice elem)) (hu':P.underlying t'=some (.slice e')\/P.underlying t'=some .string) (hi:P.info? elem=some i) (hz:i.zero=some zv) (hl:(Builtin.lenOf x).run P w=.ok n w)
 (hc:¬sLen+n<=sCap) (hb:sLen+n<=1048576) (hby:i.bytes<=65536)
 (hold:(Builtin.firstCells i.size sLen (.slice base sLen sCap)).run P (dr w (w.drawn+1))=.ok IH (dr w (w.drawn+1)))
 (hnew:(Builtin.firstCells i.size n x).run P (dr w (w.drawn+1))=.ok new (dr w (w.drawn+1))):
 ∃ newCap,sLen+n<=newCap/\(Builtin.append_ #[t,t'] ty #[.slice base sLen sCap,x]).run P w=
  .ok (.slice (some ⟨w.heap.size,0,none⟩) (sLen+n) newCap) ((dr w (w.drawn+1)).alloc (.cells (IH++new++Builtin.zeroCells zv.cells (newCap-(sLen+n))) elem)):=by
 refine⟨(Question.appendCap (sLen+n) sCap elem).cut (w.tape w.drawn (Question.appendCap (sLen+n) sCap elem)),by simp[Question.cut],?_⟩
 unfold Builtin.append_
 rcases hu' with hu'|hu'<;>simp only[List.getElem?_toArray,List.getElem?_cons_zero,List.getElem?_cons_succ,Sem.run_bind,run_underlying hu,run_underlying hu',Result.andThen_ok,Ax hi,Sem.run_pure',Bool.false_eq_true,if_false,hl,Bool.not_false,if_true,hc,
  Cz hi]
 all_goals
  have h1:¬((sLen+n:Nat):Int)>IntKind.i64.max:=by
   have:IntKind.i64.max=9223372036854775807:=by decide
   omega
  have h2:¬Builtin.nextslicecap (sLen+n) sCap*i.bytes>2 ^ 48:=by
   have:=Pf (sLen+n) sCap (by omega)
   have h3:=Nat.mul_le_mul (show Builtin.nextslicecap (sLen+n) sCap<=2097344 by omega) hby
   omega
  rw[if_neg (by rintro⟨h,_⟩;exact h1 h)]
  simp only[Sem.run_bind,Cz hi,Result.andThen_ok]
  rw[if_neg h2]
  have hch:(choose (Question.appendCap (sLen+n) sCap elem)).run P w=.ok ((Question.appendCap (sLen+n) sCap elem).cut (w.tape w.drawn (Question.appendCap (sLen+n) sCap elem))) (dr w (w.drawn+1)):=rfl
  simp only[Sem.run_bind,hch,Result.andThen_ok]
  have hroom:∀ b,(askRoom b).run P (dr w (w.drawn+1))=.ok () (dr w (w.drawn+1)):=by
   intro b;unfold askRoom;split<;>rfl
  simp only[Cz hi,hroom,Result.andThen_ok,hold,hnew,Ch hi hz]
  rfl
theorem OY {size:Nat} {x:V} {h:H} {k:Nat->List V->Bool} (hk:DL size x h k=true):
 ∃ n vs,(∀ k',DL size x h k'=k' n vs)/\vs.length=n*size/\∀ ρ xv,At ρ x xv->(∀ (P:Program) w,(Builtin.lenOf xv).run P w=.ok n w)/\
  ∀ w w0,Aw ρ h w w0->∃ new:Array Value,BG ρ vs new.toList/\∀ (P:Program),(Builtin.firstCells size n xv).run P w=.ok new w:=by
 rcases Eh hk with⟨hv,hk⟩|⟨id,g,off,len,fin,cap,hv,hk⟩
 ·subst hv
  refine⟨0,[],fun k'=>rfl,by simp,fun ρ xv hx=>?_⟩
  have hx':xv=.slice none 0 0:=hx
  subst hx'
  exact⟨fun P w=>rfl,fun w w0 R=>⟨#[],trivial,fun P=>rfl⟩⟩
 ·subst hv
  cases len with
  |zero=>
   refine⟨0,[],fun k'=>rfl,by simp,fun ρ xv hx=>?_⟩
   obtain⟨L,ad,c,l1,rfl,lc,l3,l4,l5,l6,l7⟩:=hx
   exact⟨fun P w=>rfl,fun w w0 R=>⟨#[],trivial,fun P=>by unfold Builtin.firstCells;rw[Nat.zero_mul];rfl⟩⟩
  |succ len=>
  have hk:Bz h id g off fin (Nat.mul (len+1) size) (fun vs=>k (len+1) vs)=true:=hk
  obtain⟨vs,h1,h2,h3⟩:=EX hk
  refine⟨len+1,vs,fun k'=>by show Bz h id g off fin (Nat.mul (len+1) size) (fun vs=>k' (len+1) vs)=_;rw[h1],h2,fun ρ xv hx=>?_⟩
  obtain⟨L,ad,c,l1,rfl,lc,l3,l4,l5,l6,l7⟩:=hx
  refine⟨fun P w=>rfl,fun w w0 R=>?_⟩
  obtain⟨xs,x1,x2,x3⟩:=h3 ρ w w0 L R l1 l3 l4
  rcases l5 with⟨h0,_⟩|rfl
  ·omega
  ·exact⟨xs.toArray,by simpa using x1,fun P=>by unfold Builtin.firstCells;exact x2 P⟩
theorem IK {x:V} {k:Nat->List V->Bool} (hk:E6 x k=true):
 ∃ n vs,(∀ k',E6 x k'=k' n vs)/\vs.length=n*1/\∀ ρ xv,At ρ x xv->(∀ (P:Program) w,(Builtin.lenOf xv).run P w=.ok n w)/\
  ∃ new:Array Value,BG ρ vs new.toList/\∀ (P:Program) (w:World),(Builtin.firstCells 1 n xv).run P w=.ok new w:=by
 obtain⟨l,n,rfl,hk2⟩:=ER hk
 refine⟨l,Ve l n [],fun k'=>by simp only[E6,Ii,Jy],by simp[IE],fun ρ xv hx=>?_⟩
 obtain⟨bs,rfl,e1,e2,e3⟩:=G2 hx
 refine⟨fun P w=>by rw[<-e3];rfl,((bs.extract 0 l).data.map fun b=>.int .u8 b.toNat),?_,fun P w=>rfl⟩
 have e4:(bs.extract 0 l).data.toList=bs.data.toList:=by
  rw[ByteArray.data_extract,Array.toList_extract,List.extract_eq_take_drop]
  rw[List.drop_zero,List.take_of_length_le (by omega)]
 rw[<-e2,Pu l bs.data.toList [] e1,List.append_nil,Array.toList_map,e4]
 exact MF ρ _
/--'append' Wq which the walk goes:what it makes of the slice and the new cells -/
def HL (P:Program) (t t' ty elem:TypeId) (s x:V) (h:H) (v:V) (h':H):Prop:=
 ∀ ρ w w0 sv xv,Aw ρ h w w0->At ρ s sv->At ρ x xv->∃ y w',(Builtin.append_ #[t,t'] ty #[sv,xv]).run P w=.ok y w'/\KN h.floor ρ w0 v h' y w'
theorem L5 {p s off m:Nat} (h:p<off+m) (hs:s<=off) (hp:s<=p):p-s<off-s+m:=by omega
theorem Za {off s m fin p:Nat} (h1:off+m=fin) (h2:s<=off) (h3:fin<=p):off-s+m+(p-fin)=p-s:=by omega
theorem aX {off s p:Nat} (h:s<=off) (h2:off<=p):off-s+(p-off)=p-s:=by omega
theorem FQ {p f n:Nat} (h:p<f+n) (h2:f<=p):p-f<n:=by omega
theorem Ig {cur min min' g' fin sz:Nat} (h:(fin=sz/\min'=min)\/min'=cur+1) (hg:g'<=cur) (hm:min'<=g'):fin=sz/\min<=g':=by omega
theorem QR {cur min min' g' fin sz:Nat} (h:(fin=sz/\min'=min)\/min'=cur+1) (hg:min<=cur) (hm:min'<=g'\/cur+1<min'):min'<=g':=by omega
theorem FJ (z:Array Value) (n:Nat):(Builtin.zeroCells z n).size=n*z.size:=by simp[Builtin.zeroCells]
section
variable {P:Program} {t t' ty elem e':TypeId} {i:TypeInfo}
variable (hu:P.underlying t=some (.slice elem)) (hu':P.underlying t'=some (.slice e')\/P.underlying t'=some .string) (hi:P.info? elem=some i) (hz:(zeroOf i.zero).length=i.size) (hs1:1<=i.size) (hby:i.bytes<=65536)
include hu hu' hi hz hs1 hby
omit hu hu' hi hz hs1 hby in
theorem MW {n:Nat} {z:Unit->Bool} {k:Nat->Bool} (h:JG n z k=true):(n=0/\z ()=true)\/(∃ m,n=m+1/\k n=true):=by
 cases n with
 |zero=>exact .inl ⟨rfl,h⟩
 |succ m=>exact .inr ⟨m,rfl,h⟩
omit hu hu' hi hz hs1 hby in
@[simp] theorem Le (z:Unit->Bool) (k:Nat->Bool):JG 0 z k=z ():=rfl
omit hu hu' hi hz hs1 hby in
@[simp] theorem D6 (n:Nat) (z:Unit->Bool) (k:Nat->Bool):JG (n+1) z k=k (n+1):=rfl
theorem SU {x:V} {n:Nat} {vs:List V} {h:H} {k:V->H->Bool} (hk:Km elem n vs h k=true) (hlen:vs.length=n*i.size)
 (hx:∀ ρ xv,At ρ x xv->(∀ (P:Program) w,(Builtin.lenOf xv).run P w=.ok n w)/\∀ w w0,Aw ρ h w w0->∃ new:Array Value,BG ρ vs new.toList/\∀ (P:Program),(Builtin.firstCells i.size n xv).run P w=.ok new w):
 ∃ v h',(∀ k',Km elem n vs h k'=k' v h')/\Ak h h'/\B.val h.next<=B.val h'.next/\HL P t t' ty elem .l0 x h v h':=by
 cases n with
 |zero=>
  refine⟨.l0,h,fun k'=>rfl,Ak.refl h,Nat.le_refl _,fun ρ w w0 sv xv R hsv hxv=>?_⟩
  have hsv':sv=.slice none 0 0:=hsv
  subst hsv'
  obtain⟨x1,x2⟩:=hx ρ xv hxv
  obtain⟨new,n1,n2⟩:=x2 w w0 R
  exact⟨_,_,EN P w w t t' ty elem e' i none 0 0 0 xv new hu hu' hi (x1 P w) (Nat.le_refl _) (n2 P) (fun a ha=>by cases ha) (fun _=>rfl),ρ,Ext.refl _ ρ,rfl,R⟩
 |succ m=>
  simp only[Km,D6]at hk
  obtain⟨hb,hk⟩:=AT hk
  obtain⟨h',g1,g2,g3,g4⟩:=E9 hk
  have hb':m+1<=1048576:=Nat.le_of_ble_eq_true hb
  refine⟨.l h.next 0 0 (m+1) vs.length none,h',fun k'=>by simp only[Km,D6,hb,AF,g1],g2,g3,fun ρ w w0 sv xv R hsv hxv=>?_⟩
  have hsv':sv=.slice none 0 0:=hsv
  subst hsv'
  obtain⟨x1,x2⟩:=hx ρ xv hxv
  obtain⟨new,n1,n2⟩:=x2 (dr w (w.drawn+1)) w0 (R.dr _)
  obtain⟨zv,z1,z2⟩:=De (ρ:=ρ) (z:=i.zero) (by omega)
  obtain⟨nc,c1,c2⟩:=FU P w t t' ty elem e' i zv none 0 0 (m+1) xv #[] new hu hu' hi z1 (x1 P w) (by omega) (by omega) hby rfl (n2 P)
  have nl:=n1.length
  have zl:=z2.length
  simp at nl zl
  obtain⟨ρ',e1,e2,e3⟩:=g4 ρ (dr w (w.drawn+1)) w0 (#[]++new++Builtin.zeroCells zv.cells (nc-(0+(m+1)))) 0 _ (R.dr _) (by simp;omega) rfl
   (fun j v y hv hy=>by
     obtain⟨q,d1,d2⟩:=n1.get hv
     have hj:j<new.size:=by have:=(List.getElem?_eq_some_iff.1 d1).1;simpa using this
     have:some q=some y:=by
      rw[<-d1,<-hy,Array.getElem?_toList,Array.getElem?_append_left (by simpa using hj)];simp
     cases this;exact d2) rfl
  refine⟨_,_,c2,ρ',e1,⟨_,_,_,e2,by rw[Nat.zero_add];rfl,by omega,Nat.zero_le _,Nat.le_refl _,.inr rfl,(fun d hd=>by cases hd),fun _=>.inr ⟨i.size,hs1,by simp[hlen],?_⟩⟩,e3⟩
  refine⟨?_,fun d hd=>by cases hd⟩
  show 0-0+nc*i.size<=(#[]++new++Builtin.zeroCells zv.cells (nc-(0+(m+1)))).size
  simp only[Array.size_append,FJ]
  have:(nc-(0+(m+1)))*zv.cells.size=nc*i.size-(m+1)*i.size:=by
   rw[show zv.cells.size=i.size by omega,Nat.zero_add,Nat.sub_mul]
  have h5:(m+1)*i.size<=nc*i.size:=Nat.mul_le_mul_right _ (by omega)
  rw[this,<-nl,hlen]
  simp;omega
theorem Qr {x:V} {id:B} {g off len fin n c:Nat} {vs:List V} {h:H} {k:V->H->Bool} (hcM:c<18446744073709551616) (hk:EK elem id g off len fin i.size n vs h k=true) (hcap:¬len+n<=c) (hlen:vs.length=n*i.size)
 (hx:∀ ρ xv,At ρ x xv->(∀ (P:Program) w,(Builtin.lenOf xv).run P w=.ok n w)/\∀ w w0,Aw ρ h w w0->∃ new:Array Value,BG ρ vs new.toList/\∀ (P:Program),(Builtin.firstCells i.size n xv).run P w=.ok new w):
 ∃ v h',(∀ k',EK elem id g off len fin i.size n vs h k'=k' v h')/\Ak h h'/\B.val h.next<=B.val h'.next/\HL P t t' ty elem (.l id g off len fin (some c)) x h v h':=by
 simp only[EK]at hk
 obtain⟨hb,hk⟩:=AT hk
 obtain⟨IH,o1,o2,o3⟩:=N3 (fun h=>by rw[h];exact Nat.zero_mul _) hk
 rw[o1]at hk
 obtain⟨h',g1,g2,g3,g4⟩:=E9 hk
 have hb':len+n<=1048576:=Nat.le_of_ble_eq_true hb
 refine⟨.l h.next 0 0 (len+n) ((len+n)*i.size) none,h',fun k'=>by simp only[EK,hb,AF,o1,g1,A8];rfl,g2,g3,fun ρ w w0 sv xv R hsv hxv=>?_⟩
 obtain⟨L,ad,cc,l1,rfl,lc,l3,l4,l5,l6,l7⟩:=hsv
 have hcc:cc=c:=l6 c rfl hcM
 subst hcc
 obtain⟨x1,x2⟩:=hx ρ xv hxv
 obtain⟨new,n1,n2⟩:=x2 (dr w (w.drawn+1)) w0 (R.dr _)
 obtain⟨zv,z1,z2⟩:=De (ρ:=ρ) (z:=i.zero) (by omega)
 obtain⟨xs,y1,y2,y3⟩:=o3 ρ (dr w (w.drawn+1)) w0 L (R.dr _) l1 l3 l4
 have hold:∃ oa:Array Value,BG ρ IH oa.toList/\(Builtin.firstCells i.size len (.slice (some ad) len cc)).run P (dr w (w.drawn+1))=.ok oa (dr w (w.drawn+1)):=by
  rcases l5 with⟨rfl,_⟩|rfl
  ·refine⟨#[],?_,?_⟩
   ·have:IH=[]:=by
     apply List.eq_nil_of_length_eq_zero
     rw[o2];exact Nat.zero_mul _
    subst this;trivial
   ·unfold Builtin.firstCells;rw[Nat.zero_mul];rfl
  ·exact⟨xs.toArray,by simpa using y1,by unfold Builtin.firstCells;exact y2 P⟩
 obtain⟨oa,oa1,oa2⟩:=hold
 obtain⟨nc,c1,c2⟩:=FU P w t t' ty elem e' i zv (some ad) len cc n xv oa new hu hu' hi z1 (x1 P w) hcap hb' hby oa2 (n2 P)
 have nl:=n1.length
 have zl:=z2.length
 have ol:=oa1.length
 have o2':IH.length=len*i.size:=o2
 simp at nl zl ol
 have happ:BG ρ (app IH vs) (oa++new).toList:=by
  rw[EI];simpa using oa1.append n1
 have hal:(app IH vs).length=(len+n)*i.size:=by rw[EI,List.length_append,o2',hlen,Nat.add_mul]
 have hal2:=happ.length
 simp at hal2
 obtain⟨ρ',e1,e2,e3⟩:=g4 ρ (dr w (w.drawn+1)) w0 (oa++new++Builtin.zeroCells zv.cells (nc-(len+n))) 0 _ (R.dr _) (by simp;omega) rfl
  (fun j v y hv hy=>by
    obtain⟨q,d1,d2⟩:=happ.get hv
    have hj:j<(oa++new).size:=by have:=(List.getElem?_eq_some_iff.1 d1).1;simpa using this
    have:some q=some y:=by
     rw[<-d1,<-hy,Array.getElem?_toList,Array.getElem?_append_left hj]
    cases this;exact d2) rfl
 refine⟨_,_,c2,ρ',e1,⟨_,_,_,e2,rfl,c1,Nat.zero_le _,by rw[hal];exact Nat.le_refl _,.inr rfl,(fun d hd=>by cases hd),fun _=>.inr ⟨i.size,hs1,by simp,?_⟩⟩,e3⟩
 refine⟨?_,fun d hd=>by cases hd⟩
 show 0-0+nc*i.size<=(oa++new++Builtin.zeroCells zv.cells (nc-(len+n))).size
 simp only[Array.size_append,FJ]
 have h6:(nc-(len+n))*zv.cells.size=nc*i.size-(len+n)*i.size:=by
  rw[show zv.cells.size=i.size by omega,Nat.sub_mul]
 have h5:(len+n)*i.size<=nc*i.size:=Nat.mul_le_mul_right _ (by omega)
 rw[h6]
 have h7:(len+n)*i.size=len*i.size+n*i.size:=Nat.add_mul _ _ _
 omega
theorem UY {x:V} {id:B} {g off len fin n c:Nat} {vs:List V} {h:H} {k:V->H->Bool} (hcM:c<18446744073709551616) (hk:Gn id g off len fin c i.size n vs h k=true) (hcap:len+n<=c) (hlen:vs.length=n*i.size)
 (hx:∀ ρ xv,At ρ x xv->(∀ (P:Program) w,(Builtin.lenOf xv).run P w=.ok n w)/\∀ w w0,Aw ρ h w w0->∃ new:Array Value,BG ρ vs new.toList/\∀ (P:Program),(Builtin.firstCells i.size n xv).run P w=.ok new w):
 ∃ v h',(∀ k',Gn id g off len fin c i.size n vs h k'=k' v h')/\Ak h h'/\B.val h.next<=B.val h'.next/\HL P t t' ty elem (.l id g off len fin (some c)) x h v h':=by
 cases n with
 |zero=>
  refine⟨.l id g off len fin (some c),h,fun k'=>rfl,Ak.refl h,Nat.le_refl _,fun ρ w w0 sv xv R hsv hxv=>?_⟩
  have hsv0:=hsv
  obtain⟨L,ad,cc,l1,rfl,lc,l3,l4,l5,l6,l7⟩:=hsv
  have hcc:cc=c:=l6 c rfl hcM
  subst hcc
  obtain⟨x1,x2⟩:=hx ρ xv hxv
  obtain⟨new,n1,n2⟩:=x2 w w0 R
  have:new=#[]:=by
   have:=n1.length
   rw[hlen]at this
   apply Array.eq_empty_of_size_eq_zero
   simpa using this.symm
  subst this
  exact⟨_,_,EN P w w t t' ty elem e' i (some ad) len cc 0 xv #[] hu hu' hi (x1 P w) hcap (n2 P) (fun a ha=>rfl) (fun _=>rfl),ρ,Ext.refl _ ρ,hsv0,R⟩
 |succ m=>
  simp only[Gn,D6]at hk
  obtain⟨h',g1,g2,g3,g4⟩:=HA hk
  refine⟨.l id g off (len+(m+1)) fin (some c),h',fun k'=>by simp only[Gn,D6,g1,A8];rfl,g2,by rw[g3];exact Nat.le_refl _,fun ρ w w0 sv xv R hsv hxv=>?_⟩
  obtain⟨L,ad,cc,l1,rfl,lc,l3,l4,l5,l6,l7⟩:=hsv
  have hcc:cc=c:=l6 c rfl hcM
  subst hcc
  obtain⟨x1,x2⟩:=hx ρ xv hxv
  obtain⟨new,n1,n2⟩:=x2 w w0 R
  have hadr:ad=⟨L.b,off-L.s,none⟩:=by
   rcases l5 with⟨h0,h1⟩|h1
   ·rcases h1 with h1|h1
    ·cases h1
    ·cases h1;omega
   ·exact h1
  subst hadr
  obtain⟨s1,s2⟩:=g4 ρ w w0 L _ R l1 (by exact Nat.le_add_right_of_le l3) l4 n1
  have e5:Nat.add off (Nat.mul len i.size)-L.s=off-L.s+len*i.size:=by
   show off+len*i.size-L.s=_
   omega
  rw[e5]at s1 s2
  exact⟨_,_,EN P w _ t t' ty elem e' i (some ⟨L.b,off-L.s,none⟩) len cc (m+1) xv new hu hu' hi (x1 P w) hcap (n2 P) (fun a ha=>by cases ha;rw[Cj];exact s1 P) (fun hn=>by cases hn),ρ,Ext.refl _ ρ,
   ⟨L,_,_,l1,rfl,hcap,l3,l4,.inr rfl,(fun d hd _=>by cases hd;rfl),(fun hd=>absurd hd (QO.no hcM))⟩,s2⟩
theorem K9 {x:V} {id:B} {g off len fin n:Nat} {cap:Option Nat} {z:Bool} {vs:List V} {h:H} {k:V->H->Bool} (hcap:QO cap) (hzz:z=true->len=0->cap=some (18446744073709551615+i.size)) (hk:Cg z elem id g off len fin i.size n vs h k=true) (hlen:vs.length=n*i.size)
 (hx:∀ ρ xv,At ρ x xv->(∀ (P:Program) w,(Builtin.lenOf xv).run P w=.ok n w)/\∀ w w0,Aw ρ h w w0->∃ new:Array Value,BG ρ vs new.toList/\∀ (P:Program),(Builtin.firstCells i.size n xv).run P w=.ok new w):
 ∃ v h',(∀ k',Cg z elem id g off len fin i.size n vs h k'=k' v h')/\Ak h h'/\B.val h.next<=B.val h'.next/\HL P t t' ty elem (.l id g off len fin cap) x h v h':=by
 obtain⟨next,floor,heap⟩:=h
 have e:∀ k',Cg z elem id g off len fin i.size n vs ⟨next,floor,heap⟩ k'=B9 (heap.get id) fun Af=>Ir Af fun cur min sz cells el fr=>
  Ap (Nat.ble min g) fun _=>Ap (B.Js floor id) fun _=>Ap (Nat.ble (Nat.add off (Nat.mul len i.size)) sz) fun _=>Ap (Nat.beq fin (Nat.add off (Nat.mul len i.size))) fun _=>Ap z fun _=>Ap (Nat.ble (Nat.add len n) 1048576) fun _=>Ap (CB vs) fun _=>Ap (Hl fr (Nat.add off (Nat.mul len i.size))) fun _=>Ap (Nat.beq el elem) fun _=>
   Cp vs (Nat.add off (Nat.mul len i.size)) cells fun t=>T.GO id ⟨Nat.succ cur,Sa (Nat.beq (Nat.add off (Nat.mul len i.size)) sz) min (Nat.succ cur),Nat.add (Nat.add off (Nat.mul len i.size)) (Nat.mul n i.size),t,el,fr⟩ heap fun heap=>k' (.l id (Nat.succ cur) off (Nat.add len n) (Nat.add (Nat.add off (Nat.mul len i.size)) (Nat.mul n i.size)) (Ma i.size (Nat.add len n))) ⟨next,floor,heap⟩:=by
  intro k';simp only[Cg,B6,A8]
 rw[e]at hk
 obtain⟨⟨cur,min,sz,cells,bel,fr⟩,hb,hk⟩:=Bb hk
 simp only[BC]at hk
 obtain⟨hmg,hk⟩:=AT hk
 obtain⟨hfl,hk⟩:=AT hk
 obtain⟨hsz,hk⟩:=AT hk
 obtain⟨hfn,hk⟩:=AT hk
 obtain⟨hzt,hk⟩:=AT hk
 obtain⟨hbd,hk⟩:=AT hk
 obtain⟨hone,hk⟩:=AT hk
 obtain⟨hfr,hk⟩:=AT hk
 obtain⟨hel,hk⟩:=AT hk
 obtain⟨tr,h1,h2,h3⟩:=EF _ _ _ _ hk
 have hfn':fin=off+len*i.size:=Nat.eq_of_beq_eq_true hfn
 have hmn:∃ min',Sa (Nat.beq (Nat.add off (Nat.mul len i.size)) sz) min (Nat.succ cur)=min'/\((fin=sz/\min'=min)\/min'=cur+1):=by
  refine⟨_,rfl,?_⟩
  cases hb:Nat.beq (Nat.add off (Nat.mul len i.size)) sz with
  |true=>exact .inl ⟨hfn'.trans (Nat.eq_of_beq_eq_true hb),rfl⟩
  |false=>exact .inr rfl
 obtain⟨min',hmin,hmin2⟩:=hmn
 rw[hmin]at hk
 obtain⟨hp,h4,h5,h6⟩:=Bp id (⟨cur+1,min',fin+n*i.size,tr,bel,fr⟩:E0) heap
 have hpp:Nat.add off (Nat.mul len i.size)=fin:=hfn'.symm
 rw[hpp]at h1 h2 h3 hfr hsz
 refine⟨.l id (cur+1) off (len+n) (fin+n*i.size) (Ma i.size (len+n)),⟨next,floor,hp⟩,fun k'=>by rw[e,hb,Ad,BC,hmin];simp only[hpp];rw[hmg,hfl,hsz,Nat.beq_refl,hzt,hbd,hone,hfr,hel];simp only[AF];rw[h1];exact h4 _,⟨rfl,fun hf i hi=>h6 i (fun e=>by rw[e]at hi;exact absurd (Dy hfl) (Nat.not_le.2 hi))⟩,Nat.le_refl _,fun ρ w w0 sv xv R hsv hxv=>?_⟩
 have hsz0:fin<=sz:=Nat.le_of_ble_eq_true hsz
 have hsz':off+len*i.size=fin:=hfn'.symm
 have hbd':len+n<=1048576:=Nat.le_of_ble_eq_true hbd
 have hmg':min<=g:=Nat.le_of_ble_eq_true hmg
 have hel':bel=elem:=Nat.eq_of_beq_eq_true hel
 obtain⟨L,ad,cc,l1,rfl,lc,l3,l4,l5,l6,l7⟩:=hsv
 have hl0:len=0->cap=some (18446744073709551615+i.size):=hzz hzt
 have hadr:ad=⟨L.b,off-L.s,none⟩:=by
  rcases l5 with⟨h0,h1⟩|h1
  ·rcases h1 with h1|h1
   ·rw[hl0 h0]at h1;cases h1
   ·rcases hcap with hc|⟨d,hc,hd⟩
    ·rw[hc]at h1;cases h1
    ·rw[hc]at h1;cases h1;omega
  ·exact h1
 subst hadr
 obtain⟨q1,q3⟩:1<=i.size/\off-L.s+cc*i.size<=L.cs:=by
  refine⟨hs1,?_⟩
  rcases l7 hcap with h0|⟨q,q1,q2,q3,q4⟩
  ·rw[hl0 h0.1]at h0;cases h0.2
  ·rcases Nat.eq_zero_or_pos len with h0|h0
   ·have:=q4 _ (hl0 h0)
    rw[show i.size=q by omega];exact q3
   ·have hq:q=i.size:=by
     have:len*q=len*i.size:=by omega
     exact Nat.eq_of_mul_eq_mul_left (by omega) this
    rw[<-hq];exact q3
 obtain⟨Af,a1,a2,a3,a4,a5,a6,a7⟩:=R.loc _ _ _ l1
 have hbe:Af=⟨cur,min,sz,cells,bel,fr⟩:=by
  have:heap.get id=some Af:=a1
  rw[hb]at this;exact(Option.some.inj this).symm
 subst hbe
 simp only at a2 a5 a6
 have hmg2:min<=cur:=Nat.le_trans hmg' a2
 obtain⟨c,el,b1,b2,b3,b4⟩:=a7 hmg'
 obtain⟨x1,x2⟩:=hx ρ xv hxv
 have hnone:ρ id (cur+1)=none:=by
  cases hr:ρ id (cur+1)with
  |none=>rfl
  |some M=>
   obtain⟨blk2,d1,d2,_⟩:=R.loc _ _ _ hr
   have:heap.get id=some blk2:=d1
   rw[hb]at this
   cases this
   simp only at d2
   omega
 by_cases hc:len+n<=cc
 · --in place
   obtain⟨new,n1,n2⟩:=x2 w w0 R
   have nl:=n1.length
   simp at nl
   have hcs:off-L.s+len*i.size+new.size<=c.size:=by
    have:(len+n)*i.size<=cc*i.size:=Nat.mul_le_mul_right _ hc
    rw[Nat.add_mul]at this
    omega
   have b1h:=b1
   obtain⟨b1e,fz,b1a,b1f⟩:=b1h
   obtain⟨c',s1,s2,s3,s4⟩:=Fv L.b new.toList (off-L.s+len*i.size) w c el fz b1a
   have hrun:(storeCells (Addr.add ⟨L.b,off-L.s,none⟩ (len*i.size)) new.toList).run P w=.ok () (w.setCells L.b (off-L.s+len*i.size) new.toList):=by
    rw[Cj]
    have:=run_storeCells_cells (P:=P) L.b (off-L.s+len*i.size) new.toList 0 w
     (fun j hj=>by rw[b1.cell?];simp at hj;rw[Array.getElem?_eq_getElem (by omega)];rfl)
     (fun j hj=>by
       have hj':j<new.size:=by simpa using hj
       have:w.frozen? ⟨L.b,off-L.s+len*i.size+0+j,none⟩=false:=b1.T4 hfr (by omega) (by omega)
       exact this)
     (I7 hone n1)
    simpa using this
   have hle:=BF.JH (⟨L.b,L.s,fin+n*i.size,L.cs,none⟩:Loc) hnone
   refine⟨_,_,EN P w _ t t' ty elem e' i (some ⟨L.b,off-L.s,none⟩) len cc n xv new hu hu' hi (x1 P w) hc (n2 P) (fun a ha=>by cases ha;exact hrun) (fun hn=>by cases hn),
    ρ.put id (cur+1) ⟨L.b,L.s,fin+n*i.size,L.cs,none⟩,Ext.put hnone (Dy hfl),⟨_,_,_,BF.Da _ _ _ _,rfl,hc,l3,Nat.le_refl _,.inr rfl,(fun d hd hl=>absurd hl (NW hs1 hd)),fun _=>.inr ⟨i.size,q1,by rw[Nat.add_mul];omega,q3,fun d hd=>NI hd⟩⟩,?_⟩
   have hcase:∀ {j g' M},ρ.put id (cur+1) ⟨L.b,L.s,fin+n*i.size,L.cs,none⟩ j g'=some M->(j=id/\g'=cur+1/\M=⟨L.b,L.s,fin+n*i.size,L.cs,none⟩)\/ρ j g'=some M:=by
    intro j g' M hM
    by_cases e:j=id/\g'=cur+1
    ·left;obtain⟨rfl,rfl⟩:=e;rw[BF.Da]at hM;exact⟨rfl,rfl,(Option.some.inj hM).symm⟩
    ·right;rwa [BF.EL _ _ _ _ e]at hM
   constructor
   ·intro j g' M hM
    rcases hcase hM with⟨e1,e2,e3⟩|hN
    ·subst e1;subst e2;subst e3
     refine⟨_,h5,Nat.le_refl _,by rw[CQ];exact a3,by show L.s<=fin+n*i.size;omega,fun _=>Nat.le_refl _,fun _=>rfl,fun _=>⟨c',el,⟨b1e,fz,s1,by rw[s2];exact b1f⟩,s2.trans b2,by show fin+n*i.size-L.s<=L.cs;omega,fun p p1 p2=>?_⟩⟩
     simp only at p1 p2
     by_cases hpf:p<fin
     ·obtain⟨v,y,f1,f2,f3⟩:=b4 p p1 (Nat.lt_of_lt_of_le hpf l4)
      exact⟨v,y,(h3 p (.inl hpf)).trans f1,(s3 (p-L.s) (.inl (L5 (by rw[hsz'];exact hpf) l3 p1))).trans f2,At.up hle _ _ f3⟩
     ·have hv:vs[p-fin]? =some (vs[p-fin]'(FQ (by rw[hlen];exact p2) (Nat.le_of_not_lt hpf))):=by simp
      obtain⟨y,y1,y2⟩:=n1.get hv
      refine⟨_,y,?_,?_,At.up hle _ _ y2⟩
      ·have:=h2 (p-fin) _ hv
       rwa [Nat.add_sub_of_le (Nat.le_of_not_lt hpf)]at this
      ·have hlt:p-fin<vs.length:=FQ (by rw[hlen];exact p2) (Nat.le_of_not_lt hpf)
       have:=s4 (p-fin) y y1 (Nat.lt_of_lt_of_le (Nat.add_lt_add_left hlt _) (by rw[nl];exact hcs))
       rwa [Za hsz' l3 (Nat.le_of_not_lt hpf)]at this
    ·obtain⟨blk2,d1,d2,d3,d4,d5,d6,d7⟩:=R.loc _ _ _ hN
     by_cases hj:j=id
     ·subst hj
      have:heap.get j=some blk2:=d1
      rw[hb]at this
      cases this
      simp only at d2 d5 d6 d7
      refine⟨_,h5,by simp only;omega,by rw[CQ];exact d3,d4,fun hm=>by obtain⟨hfs,hm⟩:=Ig hmin2 d2 (QR hmin2 hmg2 hm);show M.e<=fin+n*i.size;rw[hfs];exact Nat.le_trans (d5 (.inl hm)) (Nat.le_add_right _ _),fun hg=>by simp only at hg;omega,fun hm=>?_⟩
      obtain⟨hfs,hm⟩:=Ig hmin2 d2 hm
      have d5:=d5 (.inl hm)
      obtain⟨c2,el2,f1,f2,f3,f4⟩:=d7 hm
      by_cases hbb:M.b=L.b
      ·have hss:=(R.sep _ _ _ _ _ _ hN l1 hbb).2
       obtain⟨f1e,fz2,f1a,f1f⟩:=f1
       rw[hbb]at f1a
       rw[b1a]at f1a
       cases f1a
       refine⟨c',el,⟨b1e,fz,by rw[hbb];exact s1,by rw[s2,hss];exact b1f⟩,s2.trans f2,f3,fun p p1 p2=>?_⟩
       obtain⟨v,y,u1,u2,u3⟩:=f4 p p1 p2
       exact⟨v,y,(h3 p (.inl (by omega))).trans u1,(s3 (p-M.s) (.inl (by rw[hss];exact L5 (by rw[hsz',hfs];exact Nat.lt_of_lt_of_le p2 d5) l3 (by rw[<-hss];exact p1)))).trans u2,At.up hle _ _ u3⟩
      ·refine⟨c2,el2,f1.congr (BI _ _ _ _ _ hbb),f2,f3,fun p p1 p2=>?_⟩
       obtain⟨v,y,u1,u2,u3⟩:=f4 p p1 p2
       exact⟨v,y,(h3 p (.inl (by omega))).trans u1,u2,At.up hle _ _ u3⟩
     ·have hbb:M.b≠L.b:=fun hbb=>hj (R.sep _ _ _ _ _ _ hN l1 hbb).1
      refine⟨blk2,(h6 j hj).trans d1,d2,by rw[CQ];exact d3,d4,d5,d6,fun hm=>?_⟩
      obtain⟨c2,el2,f1,f2,f3,f4⟩:=d7 hm
      refine⟨c2,el2,f1.congr (BI _ _ _ _ _ hbb),f2,f3,fun p p1 p2=>?_⟩
      obtain⟨v,y,u1,u2,u3⟩:=f4 p p1 p2
      exact⟨v,y,u1,u2,At.up hle _ _ u3⟩
   ·intro j g' M hM
    rcases hcase hM with⟨e1,e2,e3⟩|hN
    ·rw[e1];exact R.ids _ _ _ l1
    ·exact R.ids _ _ _ hN
   ·intro j g' M j' g'' M' hM hM' hbb
    rcases hcase hM with⟨i1,i2,i3⟩|hN<;>rcases hcase hM' with⟨j1,j2,j3⟩|hN'
    ·exact⟨i1.trans j1.symm,by rw[i3,j3]⟩
    ·have:=R.sep _ _ _ _ _ _ l1 hN' (by rw[<-hbb,i3])
     exact⟨i1.trans this.1,by rw[i3];exact this.2⟩
    ·have:=R.sep _ _ _ _ _ _ hN l1 (by rw[hbb,j3])
     exact⟨this.1.trans j1.symm,by rw[j3];exact this.2⟩
    ·exact R.sep _ _ _ _ _ _ hN hN' hbb
   ·exact R.Kg
   ·intro b hb'
    rw[BI]
    ·exact R.IH b hb'
    ·have:=R.up _ _ _ l1 (Dy hfl)
     omega
   ·intro j g' M hM hf
    rcases hcase hM with⟨e1,e2,e3⟩|hN
    ·rw[e3]
     have:=R.up _ _ _ l1 (by rw[<-e1];exact hf)
     exact this
    ·exact R.up _ _ _ hN hf
   ·rw[(DJ _ _ _ _).2.2];exact R.tp
   ·rw[(DJ _ _ _ _).1];exact R.os
   ·rw[(DJ _ _ _ _).2.1];exact R.out
   ·rw[CQ];exact R.I1
   ·refine R.mp.of hle fun j M blk2 hM h2' kc h3'=>?_
    rcases hcase hM with⟨_,e2,_⟩|hN
    ·exact absurd e2 (by omega)
    ·by_cases hj:j=id
     ·subst hj
      have hb2:hp.get j=some blk2:=h2'
      rw[h5]at hb2
      have hb3:=Option.some.inj hb2
      subst hb3
      have h3'':min'=cur+1+X1 kc:=h3'
      have:=Mj kc
      omega
     ·exact⟨hN,(h6 j hj).symm.trans h2',BI _ _ _ _ _ fun hbb=>hj (R.sep _ _ _ _ _ _ hN l1 hbb).1⟩
   ·refine R.Mu.of fun j g' M blk2 hM h2' hg h3'=>?_
    by_cases hj:j=id
    ·subst hj
     have hb2:hp.get j=some blk2:=h2'
     rw[h5]at hb2
     have hb3:=Option.some.inj hb2
     subst hb3
     have h3'':min'=cur+1+9:=h3'
     omega
    ·rcases hcase hM with⟨e1,_,_⟩|hN
     ·exact absurd e1 hj
     ·exact⟨hN,(h6 j hj).symm.trans h2',BI _ _ _ _ _ fun hbb=>hj (R.sep _ _ _ _ _ _ hN l1 hbb).1⟩
 · --elsewhere
   have hcb:off-L.s+len*i.size<=c.size:=by omega
   obtain⟨new,n1,n2⟩:=x2 (dr w (w.drawn+1)) w0 (R.dr _)
   have nl:=n1.length
   simp at nl
   obtain⟨zv,z1,z2⟩:=De (ρ:=ρ) (z:=i.zero) (by omega)
   have zl:=z2.length
   simp at zl
   have hold:(Builtin.firstCells i.size len (.slice (some ⟨L.b,off-L.s,none⟩) len cc)).run P (dr w (w.drawn+1))=.ok ((List.range (len*i.size)).map fun j=>c.getD (off-L.s+j) default).toArray (dr w (w.drawn+1)):=by
    unfold Builtin.firstCells
    refine run_loadCells (dr w (w.drawn+1)) ⟨L.b,off-L.s,none⟩ (len*i.size) (fun j=>c.getD (off-L.s+j) default) (fun j hj=>?_)
    have b1':G0 (dr w (w.drawn+1)) L.b L.s c el bel fr:=b1
    have hlt:off-L.s+j<c.size:=Nat.lt_of_lt_of_le (Nat.add_lt_add_left hj _) hcb
    rw[Cj,b1'.cell?]
    simp[hlt]
   obtain⟨nc,c1,c2⟩:=FU P w t t' ty elem e' i zv (some ⟨L.b,off-L.s,none⟩) len cc n xv _ new hu hu' hi z1 (x1 P w) hc hbd' hby hold (n2 P)
   generalize hoa:((List.range (len*i.size)).map fun j=>c.getD (off-L.s+j) default).toArray=oa at c2
   have oas:oa.size=len*i.size:=by rw[<-hoa];simp
   have oag:∀ j,j<len*i.size->oa[j]? =c[off-L.s+j]? :=by
    intro j hj
    have hlt:off-L.s+j<c.size:=Nat.lt_of_lt_of_le (Nat.add_lt_add_left hj _) hcb
    rw[<-hoa]
    simp[hj,hlt]
   have hcsz:(oa++new++Builtin.zeroCells zv.cells (nc-(len+n))).size=nc*i.size:=by
    simp only[Array.size_append,FJ]
    have h6':(nc-(len+n))*zv.cells.size=nc*i.size-(len+n)*i.size:=by
     rw[show zv.cells.size=i.size by omega,Nat.sub_mul]
    have h5':(len+n)*i.size<=nc*i.size:=Nat.mul_le_mul_right _ (by omega)
    have h7':(len+n)*i.size=len*i.size+n*i.size:=Nat.add_mul _ _ _
    omega
   have hncs:(len+n)*i.size<=nc*i.size:=Nat.mul_le_mul_right _ (by omega)
   rw[Nat.add_mul]at hncs
   have hle:=BF.JH (⟨w.heap.size,off,fin+n*i.size,nc*i.size,none⟩:Loc) hnone
   refine⟨_,_,c2,ρ.put id (cur+1) ⟨w.heap.size,off,fin+n*i.size,nc*i.size,none⟩,Ext.put hnone (Dy hfl),
    ⟨_,_,_,BF.Da _ _ _ _,rfl,c1,Nat.le_refl _,Nat.le_refl _,.inr (by rw[Nat.sub_self]),(fun d hd hl=>absurd hl (NW hs1 hd)),fun _=>.inr ⟨i.size,q1,by rw[Nat.add_mul];omega,by simp,fun d hd=>NI hd⟩⟩,?_⟩
   have hcase:∀ {j g' M},ρ.put id (cur+1) ⟨w.heap.size,off,fin+n*i.size,nc*i.size,none⟩ j g'=some M->(j=id/\g'=cur+1/\M=⟨w.heap.size,off,fin+n*i.size,nc*i.size,none⟩)\/ρ j g'=some M:=by
    intro j g' M hM
    by_cases e:j=id/\g'=cur+1
    ·left;obtain⟨rfl,rfl⟩:=e;rw[BF.Da]at hM;exact⟨rfl,rfl,(Option.some.inj hM).symm⟩
    ·right;rwa [BF.EL _ _ _ _ e]at hM
   constructor
   ·intro j g' M hM
    rcases hcase hM with⟨e1,e2,e3⟩|hN
    ·subst e1;subst e2;subst e3
     refine⟨_,h5,Nat.le_refl _,by rw[Bm];exact Nat.lt_succ_self _,by show off<=fin+n*i.size;omega,fun _=>Nat.le_refl _,fun _=>rfl,fun _=>⟨_,elem,⟨hel'.symm,(0,0),DY _ _,NM.clean _ _ _⟩,hcsz,by show fin+n*i.size-off<=nc*i.size;omega,fun p p1 p2=>?_⟩⟩
     simp only at p1 p2
     by_cases hpf:p<fin
     ·obtain⟨v,y,f1,f2,f3⟩:=b4 p (Nat.le_trans l3 p1) (Nat.lt_of_lt_of_le hpf l4)
      refine⟨v,y,(h3 p (.inl hpf)).trans f1,?_,At.up hle _ _ f3⟩
      have hlt:p-off<len*i.size:=FQ (by rw[hsz'];exact hpf) p1
      rw[Array.append_assoc,Array.getElem?_append_left (by rw[oas];exact hlt)]
      rw[oag _ hlt,aX l3 p1]
      exact f2
     ·have hv:vs[p-fin]? =some (vs[p-fin]'(FQ (by rw[hlen];exact p2) (Nat.le_of_not_lt hpf))):=by simp
      obtain⟨y,y1,y2⟩:=n1.get hv
      refine⟨_,y,?_,?_,At.up hle _ _ y2⟩
      ·have:=h2 (p-fin) _ hv
       rwa [Nat.add_sub_of_le (Nat.le_of_not_lt hpf)]at this
      ·have hlt:p-fin<vs.length:=FQ (by rw[hlen];exact p2) (Nat.le_of_not_lt hpf)
       have hge:=Nat.le_of_not_lt hpf
       have e8:p-off-oa.size=p-fin:=by rw[oas,<-hsz',Nat.sub_sub]
       have e9:oa.size<=p-off:=by rw[oas];exact Nat.le_sub_of_add_le (by rw[Nat.add_comm,hsz'];exact hge)
       rw[Array.append_assoc,Array.getElem?_append_right e9]
       rw[e8,Array.getElem?_append_left (by rw[<-nl];exact hlt),<-Array.getElem?_toList]
       exact y1
    ·obtain⟨blk2,d1,d2,d3,d4,d5,d6,d7⟩:=R.loc _ _ _ hN
     by_cases hj:j=id
     ·subst hj
      have:heap.get j=some blk2:=d1
      rw[hb]at this
      cases this
      simp only at d2 d5 d6 d7
      refine⟨_,h5,by simp only;omega,by rw[Bm];exact Nat.lt_succ_of_lt d3,d4,fun hm=>by obtain⟨hfs,hm⟩:=Ig hmin2 d2 (QR hmin2 hmg2 hm);show M.e<=fin+n*i.size;rw[hfs];exact Nat.le_trans (d5 (.inl hm)) (Nat.le_add_right _ _),fun hg=>by simp only at hg;omega,fun hm=>?_⟩
      obtain⟨hfs,hm⟩:=Ig hmin2 d2 hm
      have d5:=d5 (.inl hm)
      obtain⟨c2,el2,f1,f2,f3,f4⟩:=d7 hm
      refine⟨c2,el2,f1.congr (BA _ _ d3),f2,f3,fun p p1 p2=>?_⟩
      obtain⟨v,y,u1,u2,u3⟩:=f4 p p1 p2
      exact⟨v,y,(h3 p (.inl (by omega))).trans u1,u2,At.up hle _ _ u3⟩
     ·refine⟨blk2,(h6 j hj).trans d1,d2,by rw[Bm];exact Nat.lt_succ_of_lt d3,d4,d5,d6,fun hm=>?_⟩
      obtain⟨c2,el2,f1,f2,f3,f4⟩:=d7 hm
      refine⟨c2,el2,f1.congr (BA _ _ d3),f2,f3,fun p p1 p2=>?_⟩
      obtain⟨v,y,u1,u2,u3⟩:=f4 p p1 p2
      exact⟨v,y,u1,u2,At.up hle _ _ u3⟩
   ·intro j g' M hM
    rcases hcase hM with⟨e1,e2,e3⟩|hN
    ·rw[e1];exact R.ids _ _ _ l1
    ·exact R.ids _ _ _ hN
   ·intro j g' M j' g'' M' hM hM' hbb
    rcases hcase hM with⟨i1,i2,i3⟩|hN<;>rcases hcase hM' with⟨j1,j2,j3⟩|hN'
    ·exact⟨i1.trans j1.symm,by rw[i3,j3]⟩
    ·obtain⟨_,_,_,d3,_⟩:=R.loc _ _ _ hN'
     rw[<-hbb,i3]at d3;exact absurd d3 (Nat.lt_irrefl _)
    ·obtain⟨_,_,_,d3,_⟩:=R.loc _ _ _ hN
     rw[hbb,j3]at d3;exact absurd d3 (Nat.lt_irrefl _)
    ·exact R.sep _ _ _ _ _ _ hN hN' hbb
   ·exact R.Kg
   ·intro b hb'
    rw[BA (dr w (w.drawn+1)) _ (Nat.lt_of_lt_of_le hb' R.I1)]
    exact R.IH b hb'
   ·intro j g' M hM hf
    rcases hcase hM with⟨e1,e2,e3⟩|hN
    ·rw[e3];exact R.I1
    ·exact R.up _ _ _ hN hf
   ·exact R.tp
   ·exact R.os
   ·exact R.out
   ·rw[Bm];exact Nat.le_succ_of_le R.I1
   ·refine R.mp.of hle fun j M blk2 hM h2' kc h3'=>?_
    rcases hcase hM with⟨_,e2,_⟩|hN
    ·exact absurd e2 (by omega)
    ·by_cases hj:j=id
     ·subst hj
      have hb2:hp.get j=some blk2:=h2'
      rw[h5]at hb2
      have hb3:=Option.some.inj hb2
      subst hb3
      have h3'':min'=cur+1+X1 kc:=h3'
      have:=Mj kc
      omega
     ·exact⟨hN,(h6 j hj).symm.trans h2',by obtain⟨_,_,_,d3,_⟩:=R.loc _ _ _ hN;exact BA (dr w (w.drawn+1)) _ d3⟩
   ·refine R.Mu.of fun j g' M blk2 hM h2' hg h3'=>?_
    by_cases hj:j=id
    ·subst hj
     have hb2:hp.get j=some blk2:=h2'
     rw[h5]at hb2
     have hb3:=Option.some.inj hb2
     subst hb3
     have h3'':min'=cur+1+9:=h3'
     omega
    ·rcases hcase hM with⟨e1,_,_⟩|hN
     ·exact absurd e1 hj
     ·exact⟨hN,(h6 j hj).symm.trans h2',by obtain⟨_,_,_,d3,_⟩:=R.loc _ _ _ hN;exact BA (dr w (w.drawn+1)) _ d3⟩
end
end Go.Ev
namespace Go.Ev
open Go Go.MapKept
theorem XJ:∀ (n:Nat) (t:T V) (o:Nat) (k:List (V×V)->Bool),Su n t o k=true->
 ∃ ps,(∀ k',Su n t o k'=k' ps)/\ps.length=n/\∀ (i:Nat) kv,ps[i]? =some kv->t.BU (o+2*i)=some kv.1/\t.BU (o+2*i+1)=some kv.2:=by
 intro n
 induction n with
 |zero=>intro t o k _;exact⟨[],fun _=>rfl,rfl,fun i kv h=>by simp at h⟩
 |succ n ih=>
  intro t o k h
  have e:∀ k',Su (n+1) t o k'=B9 (t.BU o) fun a=>B9 (t.BU (o+1)) fun b=>Su n t (o+2) fun ps=>k' ((a,b)::ps):=fun _=>rfl
  rw[e]at h
  obtain⟨a,ha,h⟩:=Bb h
  obtain⟨b,hb,h⟩:=Bb h
  obtain⟨ps,h1,h2,h3⟩:=ih _ _ _ h
  refine⟨(a,b)::ps,fun k'=>by rw[e,ha,Ad,hb,Ad,h1],by simp[h2],fun i kv hi=>?_⟩
  cases i with
  |zero=>simp at hi;subst hi;exact⟨by simpa using ha,by simpa using hb⟩
  |succ i=>
   have:=h3 i kv (by simpa using hi)
   rw[show o+2*(i+1)=o+2+2*i by omega]
   exact this
theorem bL.uniq {t:T V} {n:Nat} {ps qs:List (V×V)} (a:bL t n ps) (b:bL t n qs):ps=qs:=by
 apply List.ext_getElem (by rw[a.1,b.1])
 intro i h1 h2
 have e1:ps[i]? =some ps[i]:=by simp
 have e2:qs[i]? =some qs[i]:=by simp
 obtain⟨a1,a2⟩:=a.2 i _ e1
 obtain⟨b1,b2⟩:=b.2 i _ e2
 rw[a1]at b1
 rw[a2]at b2
 exact Prod.ext (Option.some.inj b1) (Option.some.inj b2)
theorem MB:∀ (ps:List (V×V)) (i:Nat) kv,ps[i]? =some kv->(Lm ps)[2*i]? =some kv.1/\(Lm ps)[2*i+1]? =some kv.2
 |[],i,kv,h=>by simp at h
 |(a,b)::r,0,kv,h=>by simp at h;subst h;exact⟨rfl,rfl⟩
 |(a,b)::r,i+1,kv,h=>by
  have:=MB r i kv (by simpa using h)
  rw[show 2*(i+1)=2*i+1+1 by omega]
  exact⟨by simpa[Lm]using this.1,by simpa[Lm]using this.2⟩
theorem J0 {h:H} {id:B} {k:B->B->T E0->Nat->Nat->Nat->Nat->List (V×V)->Bool} (hk:OT h id k=true):
 ∃ next floor heap cur min size cells n fr ps,h=⟨next,floor,heap⟩/\heap.get id=some ⟨cur,min,size,cells,n,fr⟩/\min=cur+7/\bL cells n ps/\∀ k',OT h id k'=k' next floor heap cur min size fr ps:=by
 obtain⟨next,floor,heap⟩:=h
 simp only[OT,B6]at hk
 obtain⟨⟨cur,min,size,cells,n,fr⟩,hb,hk⟩:=Bb hk
 simp only[BC]at hk
 obtain⟨hm,hk⟩:=AT hk
 obtain⟨ps,h1,h2,h3⟩:=XJ _ _ _ _ hk
 refine⟨next,floor,heap,cur,min,size,cells,n,fr,ps,rfl,hb,Nat.eq_of_beq_eq_true hm,⟨h2,fun i kv hi=>by simpa using h3 i kv hi⟩,fun k'=>?_⟩
 simp only[OT,B6,hb,Ad,BC,hm,AF,h1]
theorem EA {ρ:BF} {h:H} {w w0:World} {id:B} {x:Value} {Af:E0} {ps:List (V×V)} (R:Aw ρ h w w0) (hv:At ρ (.m id) x) (hb:h.heap.get id=some Af) (hm:Af.min=Af.cur+7) (hp:bL Af.cells Af.el ps):
 ∃ L es clock,ρ id 0=some L/\x=.map (some L.b)/\w.heap[L.b]? =some (.map es clock)/\PR ρ ps es clock:=by
 obtain⟨L,h1,h2⟩:=hv
 obtain⟨es,clock,h3,qs,h4,h5⟩:=R.mp.map id L Af h1 hb hm
 obtain rfl:=hp.uniq h4
 exact⟨L,es,clock,h1,h2,h3,h5⟩
def Gs:Option IntKind->TypeDesc
 |none=>.string
 |some k=>.int k
theorem H0 {P:Program} {t:TypeId} {kd:Option IntKind} (h:GU (Ar P t)=some kd):P.underlying t=some (Gs kd):=by
 cases ht:Ar P t with
 |none=>rw[ht]at h;cases h
 |some ty=>
  rw[ht]at h
  obtain⟨s,b,d,z⟩:=ty
  obtain⟨i,i1,i2,i3,i4,i5⟩:=Aj ht
  cases d<;>first|(cases h;exact i5)|cases h
theorem Ia {ρ:BF} {kd:Option IntKind} {a b:V} {r:Bool} {x y:Value} (h:Ky kd a b=some r) (hx:At ρ a x) (hy:At ρ b y):IsKey (Gs kd) x/\IsKey (Gs kd) y/\(r=true↔x=y):=by
 cases kd with
 |none=>
  cases a<;>cases b<;>try cases h
  rename_i l n l' n'
  obtain⟨bs,rfl,e1,e2,_⟩:=G2 hx
  obtain⟨bs',rfl,e3,e4,_⟩:=G2 hy
  refine⟨trivial,trivial,?_⟩
  have:=H9 bs bs'
  rw[e1,e2,e3,e4]at this
  rw[<-this]
  constructor
  ·intro q
   have q:bs.toList=bs'.toList:=by simpa using q
   rw[ByteArray.toList_eq,ByteArray.toList_eq]at q
   obtain⟨⟨l1⟩⟩:=bs
   obtain⟨⟨l2⟩⟩:=bs'
   cases q;rfl
  ·intro q;cases q;simp
 |some k=>
  cases a<;>cases b<;>try cases h
  rename_i kd n kd' n'
  have h':(match CU kd k&&CU kd' k with|true=>some (KC n n')|false=>none)=some r:=h
  cases hk:(CU kd k&&CU kd' k)with
  |false=>rw[hk]at h';cases h'
  |true=>
   rw[hk]at h'
   rw[Bool.and_eq_true]at hk
   have e1:=Dz hk.1
   have e2:=Dz hk.2
   subst e1;subst e2
   have hx':x=.int kd' n:=hx
   have hy':y=.int kd' n':=hy
   subst hx';subst hy'
   have h'':KC n n'=r:=Option.some.inj h'
   refine⟨rfl,rfl,?_⟩
   rw[<-h'',Ee]
   simp
theorem F2.length {ρ:BF} {ps:List (V×V)} {l:List MapEntry} (f:F2 ρ ps l):ps.length=l.length:=by
 induction f with
 |nil=>rfl
 |cons _ _ _ ih=>simp[ih]
theorem F2.get {ρ:BF} {ps:List (V×V)} {l:List MapEntry} (f:F2 ρ ps l):∀ {i:Nat} {e:MapEntry},l[i]? =some e->∃ kv,ps[i]? =some kv/\At ρ kv.1 e.key/\At ρ kv.2 e.val:=by
 induction f with
 |nil=>intro i e h;simp at h
 |cons a b _ ih=>
  intro i e h
  cases i with
  |zero=>simp at h;subst h;exact⟨_,rfl,a,b⟩
  |succ i=>exact ih (by simpa using h)
theorem TB {ρ:BF} {kd:Option IntKind} {q:V} {y:Value} (hy:At ρ q y) {ps:List (V×V)} {l:List MapEntry} (f:F2 ρ ps l):∀ {r:Option Nat},Iv kd q ps=some r->
 IsKey (Gs kd) y/\(∀ e∈l,IsKey (Gs kd) e.key)/\(r=none->∀ e∈l,e.key≠y)/\∀ i,r=some i->∃ e,l[i]? =some e/\e.key=y:=by
 induction f with
 |nil=>
  intro r h
  unfold Iv at h
  cases hq:Ky kd q q with
  |none=>rw[hq]at h;cases h
  |some b=>
   rw[hq]at h
   cases h
   exact⟨(Ia hq hy hy).1,fun e he=>(by cases he),fun _ e he=>(by cases he),fun i hi=>(by cases hi)⟩
 |@cons k v e ps es a b _ ih=>
  intro r h
  unfold Iv at h
  cases hq:Ky kd q k with
  |none=>rw[hq]at h;cases h
  |some c=>
   rw[hq]at h
   cases hr:Iv kd q ps with
   |none=>rw[hr]at h;cases c<;>cases h
   |some s=>
    rw[hr]at h
    obtain⟨i1,i2,i3,i4⟩:=ih hr
    obtain⟨j1,j2,j3⟩:=Ia hq hy a
    have hall:∀ x∈e::es,IsKey (Gs kd) x.key:=fun x hx=>by
     rcases List.mem_cons.1 hx with rfl|hx
     ·exact j2
     ·exact i2 x hx
    cases c with
    |true=>
     cases h
     exact⟨i1,hall,fun h=>(by cases h),fun i hi=>by cases hi;exact⟨e,rfl,(j3.1 rfl).symm⟩⟩
    |false=>
     have hne:e.key≠y:=fun q=>by have:=j3.2 q.symm;cases this
     cases s with
     |none=>
      cases h
      refine⟨i1,hall,fun _ x hx=>?_,fun i hi=>(by cases hi)⟩
      rcases List.mem_cons.1 hx with rfl|hx
      ·exact hne
      ·exact i3 rfl x hx
     |some n=>
      cases h
      refine⟨i1,hall,fun h=>(by cases h),fun i hi=>?_⟩
      cases hi
      obtain⟨x,x1,x2⟩:=i4 n rfl
      exact⟨x,by simpa using x1,x2⟩
theorem UN {es:Array MapEntry} {clock:Nat} (st:Stamped es clock) {i j:Nat} {e f:MapEntry} (hi:es.toList[i]? =some e) (hj:es.toList[j]? =some f) (h:e.key=f.key):i=j:=by
 have hp:=((stamped_iff es clock).1 st).2.2
 rw[List.pairwise_iff_getElem]at hp
 obtain⟨h1,e1⟩:=List.getElem?_eq_some_iff.1 hi
 obtain⟨h2,e2⟩:=List.getElem?_eq_some_iff.1 hj
 rcases Nat.lt_trichotomy i j with hlt|he|hlt
 ·exact absurd (by rw[e1,e2];exact h) (hp i j h1 h2 hlt)
 ·exact he
 ·exact absurd (by rw[e1,e2];exact h.symm) (hp j i h2 h1 hlt)
/--what 'findNow' finds -/
theorem D5 {ρ:BF} {kd:Option IntKind} {q:V} {y:Value} {ps:List (V×V)} {es:Array MapEntry} {clock:Nat} {r:Option Nat} (m:PR ρ ps es clock) (hy:At ρ q y) (hf:Iv kd q ps=some r):
 IsKey (Gs kd) y/\(∀ e∈es.toList,IsKey (Gs kd) e.key)/\
 ((r=none/\Instr.findNow (Gs kd) y es.toList 0=some none/\∀ e∈es.toList,e.key≠y)\/
  ∃ i j e l kv,r=some i/\Instr.findNow (Gs kd) y es.toList 0=some (some (j,e.val))/\es.toList[j]? =some e/\e.key=y/\l.Perm es.toList/\F2 ρ ps l/\l[i]? =some e/\ps[i]? =some kv/\At ρ kv.1 e.key/\At ρ kv.2 e.val):=by
 obtain⟨l,l1,l2⟩:=m.rel
 obtain⟨a1,a2,a3,a4⟩:=TB hy l2 hf
 have hes:∀ e∈es.toList,IsKey (Gs kd) e.key:=fun e he=>a2 e (l1.mem_iff.2 he)
 refine⟨a1,hes,?_⟩
 rcases findNow_spec a1 es.toList 0 hes with⟨h1,h2⟩|⟨j,e,h1,h2,h3⟩
 ·cases r with
  |none=>exact .inl ⟨rfl,h1,h2⟩
  |some i=>
   obtain⟨e,e1,e2⟩:=a4 i rfl
   exact absurd e2 (h2 e (l1.mem_iff.1 (List.mem_of_getElem? e1)))
 ·cases r with
  |none=>exact absurd h3 (a3 rfl e (l1.mem_iff.2 (List.mem_of_getElem? h2)))
  |some i=>
   obtain⟨f,f1,f2⟩:=a4 i rfl
   obtain⟨jf,hjf⟩:=List.mem_iff_getElem?.1 (l1.mem_iff.1 (List.mem_of_getElem? f1))
   have:jf=j:=UN m.st hjf h2 (by rw[f2,h3])
   subst this
   rw[h2]at hjf
   cases hjf
   obtain⟨kv,k1,k2,k3⟩:=l2.get f1
   exact .inr ⟨i,jf,e,l,kv,rfl,by rw[h1,Nat.zero_add],h2,h3,l1,l2,f1,k1,k2,k3⟩
theorem G9 {P:Program} {t:TypeId} {z:V} (h:zeroV P t=some z) (ρ:BF):∃ v,(∀ w,(zeroValue t).run P w=.ok v w)/\At ρ z v:=by
 have look:∀ {i:TypeInfo},P.types.toList[t]? =some i->P.info? t=some i:=by
  intro i hu
  have hu':P.types[t]? =some i:=by simpa using hu
  have hlt:t<P.types.size:=(Array.getElem?_eq_some_iff.1 hu').1
  simp only[Tables.info?,hlt,if_true]
  exact hu'
 unfold zeroV at h
 split at h
 ·rename_i i hi
  split at h
  ·rename_i cs hz
   cases h
   refine⟨_,fun w=>Ch (look hi) hz w,_,rfl,?_⟩
   show BG ρ _ cs
   clear hz
   induction cs with
   |nil=>trivial
   |cons c cs ih=>exact⟨Dj ρ c,ih⟩
  ·rename_i v _ hz
   cases h
   exact⟨v,fun w=>Ch (look hi) hz w,Dj ρ v⟩
  ·cases h
 ·cases h
theorem Rq (P:Program) (o:Oper) (t:TypeId) (x q:Operand) (ok:Bool) (h:o.op=.lookup t x q ok):Ab P o (runK (Gd P t (AI x) (AI q) ok)):=by
 cases ht:Ar P t with
 |none=>simp only[Gd,ht];exact Ae P o
 |some ty=>
  obtain⟨s1,s2,d,s4⟩:=ty
  obtain⟨i,i1,i2,i3,i4,i5⟩:=Aj ht
  cases d<;>simp only[Gd,ht]<;>try exact Ae P o
  rename_i kt e
  cases hkk:GU (Ar P kt)with
  |none=>exact Ae P o
  |some kd=>
  cases hz:zeroV P e with
  |none=>exact Ae P o
  |some z=>
  have hkt:=H0 hkk
  have res:∀ {ρ:BF} {v:V} {y:Value} (b:Bool),At ρ v y->At ρ (K6 ok v b) (if ok then .tuple #[y,.bool b]else y):=fun b hv=>by
   cases ok
   ·exact hv
   ·exact⟨_,rfl,hv,rfl,trivial⟩
  refine Ab.pure (by rw[h];rfl) fun cf fr hp k hk=>?_
  simp only[Ag,G3,AN]at hk
  cases hx:oV (AI x) fr<;>rw[hx]at hk<;>try exact Bool.noConfusion hk
  ·obtain⟨b,hb,_⟩:=Bb hk
   refine⟨K6 ok z false,fun k'=>by simp only[Ag,G3,AN,hx,vM,hb,Ad],fun ρ a A w w0 R=>?_⟩
   have ex:=A x (by rw[h];simp[Op.operands])
   rw[hx]at ex
   have ex':a.eval x=.map none:=ex
   have eq:=A q (by rw[h];simp[Op.operands])
   obtain⟨zv,z1,z2⟩:=G9 hz ρ
   refine⟨_,?_,res false z2⟩
   have hf:Instr.findNow (Gs kd) (a.eval q) [] 0=some none:=rfl
   unfold execOp
   rw[h]
   simp only[ex',Instr.lookup,Sem.run_bind,run_underlying i5,Result.andThen_ok,Sem.run_pure',Go.MapKept.run_checkKey hkt (Ia hb eq eq).1,Go.MapKept.run_findKey hkt hf,z1 w]
  ·rename_i id
   obtain⟨next,floor,heap,cur,min,size,cells,n,frz,ps,rfl,hb,hm,hp',hK⟩:=J0 hk
   simp only[vM]at hk
   rw[hK]at hk
   obtain⟨r,hr,_⟩:=Bb hk
   cases r with
   |none=>
    refine⟨K6 ok z false,fun k'=>by simp only[Ag,G3,AN,hx,vM,hK,hr,Ad],fun ρ a A w w0 R=>?_⟩
    have ex:=A x (by rw[h];simp[Op.operands])
    rw[hx]at ex
    have eq:=A q (by rw[h];simp[Op.operands])
    obtain⟨L,es,clock,l1,l2,l3,l4⟩:=EA R ex hb hm hp'
    obtain⟨f1,f2,f3⟩:=D5 l4 eq hr
    obtain⟨zv,z1,z2⟩:=G9 hz ρ
    refine⟨_,?_,res false z2⟩
    rcases f3 with⟨_,g1,_⟩|⟨i,_,_,_,_,g,_⟩
    ·unfold execOp
     rw[h]
     simp only[l2,Instr.lookup,Sem.run_bind,run_underlying i5,Result.andThen_ok,Go.MapKept.run_getObj_map l3,Sem.run_pure',Go.MapKept.run_checkKey hkt f1,Go.MapKept.run_findKey hkt g1,z1 w]
    ·cases g
   |some i=>
    refine⟨K6 ok ((ps.getD i (.u,.u)).2) true,fun k'=>by simp only[Ag,G3,AN,hx,vM,hK,hr,Ad],fun ρ a A w w0 R=>?_⟩
    have ex:=A x (by rw[h];simp[Op.operands])
    rw[hx]at ex
    have eq:=A q (by rw[h];simp[Op.operands])
    obtain⟨L,es,clock,l1,l2,l3,l4⟩:=EA R ex hb hm hp'
    obtain⟨f1,f2,f3⟩:=D5 l4 eq hr
    rcases f3 with⟨g,_⟩|⟨i',j,e',l,kv,g,g1,g2,g3,g4,g5,g6,g7,g8,g9⟩
    ·cases g
    ·cases g
     refine⟨_,?_,res (y:=e'.val) true (by simp only[List.getD_eq_getElem?_getD,g7,Option.getD_some];exact g9)⟩
     unfold execOp
     rw[h]
     simp only[l2,Instr.lookup,Sem.run_bind,run_underlying i5,Result.andThen_ok,Go.MapKept.run_getObj_map l3,Sem.run_pure',Go.MapKept.run_checkKey hkt f1,Go.MapKept.run_findKey hkt g1]
theorem Ja {w:World} {b:Nat} {o o':Obj} (hb:w.heap[b]? =some o):({w with heap:=w.heap.setIfInBounds b o'}:World).heap[b]? =some o':=(heap_set hb).1
theorem EM {w:World} {b c:Nat} {o o':Obj} (hb:w.heap[b]? =some o) (h:c≠b):({w with heap:=w.heap.setIfInBounds b o'}:World).heap[c]? =w.heap[c]? :=(heap_set hb).2 c h
theorem DR (w:World) (b:Nat) (o':Obj):({w with heap:=w.heap.setIfInBounds b o'}:World).heap.size=w.heap.size:=by simp
theorem My {next floor:B} {heap:T E0} {id:B} {cur min size fr:Nat} {cells:T V} {n:Nat} {ps qs:List (V×V)} {k:H->Bool} (hb:heap.get id=some ⟨cur,min,size,cells,n,fr⟩) (hm:min=cur+7) (hp:bL cells n ps)
 (hk:Po next floor heap id cur min size fr qs k=true):
 ∃ h',(∀ k',Po next floor heap id cur min size fr qs k'=k' h')/\Ak ⟨next,floor,heap⟩ h'/\h'.next=next/\
  ∀ ρ w w0 L es clock es' clock',Aw ρ ⟨next,floor,heap⟩ w w0->ρ id 0=some L->w.heap[L.b]? =some (.map es clock)->PR ρ qs es' clock'->Aw ρ h' {w with heap:=w.heap.setIfInBounds L.b (.map es' clock')} w0:=by
 unfold Po at hk
 obtain⟨hfl,hk⟩:=AT hk
 obtain⟨t,h1,h2,h3⟩:=EF _ _ _ _ hk
 obtain⟨hp',h4,h5,h6⟩:=Bp id (⟨cur,min,size,t,qs.length,fr⟩:E0) heap
 refine⟨⟨next,floor,hp'⟩,fun k'=>by unfold Po;rw[hfl];simp only[AF];rw[h1,h4],⟨rfl,fun hf i hi=>h6 i (fun e=>by rw[e]at hi;exact absurd (Dy hfl) (Nat.not_le.2 hi))⟩,rfl,fun ρ w w0 L es clock es' clock' R hL hwb m=>?_⟩
 have oth:∀ {i:B} {g:Nat} {M:Loc},ρ i g=some M->i≠id->({w with heap:=w.heap.setIfInBounds L.b (.map es' clock')}:World).heap[M.b]? =w.heap[M.b]? :=fun {i g M} hM hi=>EM hwb fun e=>hi (R.sep _ _ _ _ _ _ hM hL e).1
 refine⟨fun i g M hM=>?_,R.ids,R.sep,R.Kg,fun b hb'=>?_,R.up,R.tp,R.os,R.out,by rw[DR];exact R.I1,fun i M Af hM hblk kc hmm=>?_,R.Mu.of fun i g M Af hM hblk hg hmm=>?_⟩
 ·obtain⟨Af,a1,a2,a3,a4,a5,a6,a7⟩:=R.loc _ _ _ hM
  by_cases hi:i=id
  ·subst hi
   have hbe:Af=⟨cur,min,size,cells,n,fr⟩:=by
    have:heap.get i=some Af:=a1
    rw[hb]at this;exact(Option.some.inj this).symm
   subst hbe
   refine⟨_,h5,a2,by rw[DR];exact a3,a4,a5,a6,fun hmg=>?_⟩
   have h1':g<=cur:=a2
   have h2':min<=g:=hmg
   omega
  ·refine⟨Af,(h6 i hi).trans a1,a2,by rw[DR];exact a3,a4,a5,a6,fun hmg=>?_⟩
   obtain⟨c,el,b1,b2,b3,b4⟩:=a7 hmg
   exact⟨c,el,b1.congr (oth hM hi),b2,b3,b4⟩
 ·rw[EM hwb]
  ·exact R.IH b hb'
  ·have:=R.up _ _ _ hL (Dy hfl);omega
 ·by_cases hi:i=id
  ·subst hi
   have hb2:hp'.get i=some Af:=hblk
   rw[h5]at hb2
   have hb3:=Option.some.inj hb2
   subst hb3
   have:M=L:=by rw[hM]at hL;exact Option.some.inj hL
   subst this
   cases kc with
   |true=>exact absurd hmm (by show ¬min=cur+11;omega)
   |false=>
   refine⟨_,Ja hwb,es',clock',rfl,qs,⟨rfl,fun j kv hj=>?_⟩,m⟩
   obtain⟨f1,f2⟩:=MB qs j kv hj
   exact⟨by have:=h2 _ _ f1;rwa [Nat.zero_add]at this,by have:=h2 _ _ f2;rwa [Nat.zero_add]at this⟩
  ·obtain⟨o1,q1,q2⟩:=R.mp i M Af hM ((h6 i hi).symm.trans hblk) kc hmm
   exact⟨o1,(oth hM hi).trans q1,q2⟩
 ·by_cases hi:i=id
  ·subst hi
   have hb2:hp'.get i=some Af:=hblk
   rw[h5]at hb2
   have hb3:=Option.some.inj hb2
   subst hb3
   have hmm:min=cur+9:=hmm
   omega
  ·exact⟨hM,(h6 i hi).symm.trans hblk,oth hM hi⟩
theorem set_perm {α:Type}:∀ (l:List α) (i:Nat) (a:α),i<l.length->(l.set i a).Perm (a::l.eraseIdx i)
 |[],i,a,h=>by simp at h
 |x::l,0,a,h=>by simp
 |x::l,i+1,a,h=>by
  have:=set_perm l i a (by simpa using h)
  simp only[List.set_cons_succ,List.eraseIdx_cons_succ]
  exact(this.cons x).trans (List.Perm.swap a x _)
theorem Kj {α:Type}:∀ (l:List α) (i:Nat) (a:α),l[i]? =some a->l.Perm (a::l.eraseIdx i)
 |[],i,a,h=>by simp at h
 |x::l,0,a,h=>by simp at h;subst h;simp
 |x::l,i+1,a,h=>by
  have:=Kj l i a (by simpa using h)
  simp only[List.eraseIdx_cons_succ]
  exact(this.cons x).trans (List.Perm.swap a x _)
theorem Kc {α:Type} {l m:List α} (h:l.Perm m) {i j:Nat} {a:α} (hi:l[i]? =some a) (hj:m[j]? =some a):(l.eraseIdx i).Perm (m.eraseIdx j):=
 (((Kj l i a hi).symm.trans h).trans (Kj m j a hj)).cons_inv
theorem F2.set {ρ:BF} {ps:List (V×V)} {l:List MapEntry} (f:F2 ρ ps l) {k v:V} {e:MapEntry} (hk:At ρ k e.key) (hv:At ρ v e.val):∀ (i:Nat),F2 ρ (ps.set i (k,v)) (l.set i e):=by
 induction f with
 |nil=>intro i;exact .nil
 |cons a b c ih=>
  intro i
  cases i with
  |zero=>exact .cons hk hv c
  |succ i=>exact .cons a b (ih i)
theorem F2.erase {ρ:BF} {ps:List (V×V)} {l:List MapEntry} (f:F2 ρ ps l):∀ (i:Nat),F2 ρ (ps.eraseIdx i) (l.eraseIdx i):=by
 induction f with
 |nil=>intro i;exact .nil
 |cons a b c ih=>
  intro i
  cases i with
  |zero=>exact c
  |succ i=>exact .cons a b (ih i)
theorem F2.snoc {ρ:BF} {ps:List (V×V)} {l:List MapEntry} (f:F2 ρ ps l) {k v:V} {e:MapEntry} (hk:At ρ k e.key) (hv:At ρ v e.val):F2 ρ (ps++[(k,v)]) (l++[e]):=by
 induction f with
 |nil=>exact .cons hk hv .nil
 |cons a b c ih=>exact .cons a b ih
theorem RV (P:Program) (o:Oper) (t:TypeId) (x q v:Operand) (h:o.op=.mapUpdate t x q v):Ab P o (runK (GQ P t (AI x) (AI q) (AI v))):=by
 cases ht:Ar P t with
 |none=>simp only[GQ,ht];exact Ae P o
 |some ty=>
  obtain⟨s1,s2,d,s4⟩:=ty
  obtain⟨i,i1,i2,i3,i4,i5⟩:=Aj ht
  cases d<;>simp only[GQ,ht]<;>try exact Ae P o
  rename_i kt e
  cases hkk:GU (Ar P kt)with
  |none=>exact Ae P o
  |some kd=>
  have hkt:=H0 hkk
  intro cf _ fr hp k hk
  simp only[Ag,It,AN]at hk
  cases hx:oV (AI x) fr<;>rw[hx]at hk<;>try exact Bool.noConfusion hk
  rename_i id
  obtain⟨next,floor,heap,cur,min,size,cells,n,frz,ps,rfl,hb,hm,hp',hK⟩:=J0 hk
  simp only[vM]at hk
  rw[hK]at hk
  obtain⟨r,hr,hk⟩:=Bb hk
  cases r with
  |none=>
   obtain⟨h',p1,p2,p3,p4⟩:=My hb hm hp' hk
   refine⟨.tu [],h',fun k'=>by simp only[Ag,It,AN,hx,vM,hK,hr,Ad,p1],p2,by rw[p3];exact Nat.le_refl _,fun ρ a w w0 A R=>?_,fun hs=>by rw[h]at hs;exact Bool.noConfusion hs⟩
   have ex:=A x (by rw[h];simp[Op.operands])
   rw[hx]at ex
   have eq:=A q (by rw[h];simp[Op.operands])
   have ev:=A v (by rw[h];simp[Op.operands])
   obtain⟨L,es,clock,l1,l2,l3,l4⟩:=EA R ex hb hm hp'
   obtain⟨f1,f2,f3⟩:=D5 l4 eq hr
   rcases f3 with⟨_,g1,g2⟩|⟨i,_,_,_,_,g,_⟩
   ·obtain⟨l,m1,m2⟩:=l4.rel
    refine⟨.skip,_,?_,ρ,Ext.refl _ ρ,⟨#[],rfl,trivial⟩,p4 ρ w w0 L es clock (es.push {key:=a.eval q,val:=a.eval v,born:=clock}) (clock+1) R l1 l3 ⟨⟨l++[{key:=a.eval q,val:=a.eval v,born:=clock}],?_,m2.snoc eq ev⟩,stamped_push l4.st g2⟩⟩
    ·unfold execOp
     rw[h]
     simp only[l2,Instr.mapUpdate,Sem.run_bind,run_underlying i5,Result.andThen_ok,Go.MapKept.run_getObj_map l3,Go.MapKept.run_checkKey hkt f1,Go.MapKept.run_findKey hkt g1,run_setObj_map _ l3]
     rfl
    ·rw[Array.toList_push];exact m1.append_right _
   ·cases g
  |some i0=>
   obtain⟨h',p1,p2,p3,p4⟩:=My hb hm hp' hk
   refine⟨.tu [],h',fun k'=>by simp only[Ag,It,AN,hx,vM,hK,hr,Ad,p1],p2,by rw[p3];exact Nat.le_refl _,fun ρ a w w0 A R=>?_,fun hs=>by rw[h]at hs;exact Bool.noConfusion hs⟩
   have ex:=A x (by rw[h];simp[Op.operands])
   rw[hx]at ex
   have eq:=A q (by rw[h];simp[Op.operands])
   have ev:=A v (by rw[h];simp[Op.operands])
   obtain⟨L,es,clock,l1,l2,l3,l4⟩:=EA R ex hb hm hp'
   obtain⟨f1,f2,f3⟩:=D5 l4 eq hr
   rcases f3 with⟨g,_⟩|⟨i',j,e',l,kv,g,g1,g2,g3,g4,g5,g6,g7,g8,g9⟩
   ·cases g
   ·cases g
    have hj:es[j]? =some e':=by rw[<-Array.getElem?_toList];exact g2
    have hmod:(es.modify j fun e=>{e with key:=a.eval q,val:=a.eval v}).toList=es.toList.set j {e' with key:=a.eval q,val:=a.eval v}:=by
     apply List.ext_getElem?
     intro n
     rw[Array.getElem?_toList,Array.getElem?_modify,List.getElem?_set]
     by_cases hn:j=n
     ·subst hn
      have hjl:j<es.toList.length:=(List.getElem?_eq_some_iff.1 g2).1
      rw[if_pos rfl,if_pos rfl,if_pos hjl,hj];rfl
     ·rw[if_neg hn,if_neg hn,Array.getElem?_toList]
    refine⟨.skip,_,?_,ρ,Ext.refl _ ρ,⟨#[],rfl,trivial⟩,p4 ρ w w0 L es clock (es.modify j fun e=>{e with key:=a.eval q,val:=a.eval v}) clock R l1 l3 ⟨⟨l.set i0 {e' with key:=a.eval q,val:=a.eval v},?_,g5.set eq ev i0⟩,stamped_modify l4.st j _ (fun e _=>rfl) (fun e he hje=>by rw[hj]at hje;cases hje;exact g3.symm)⟩⟩
    ·unfold execOp
     rw[h]
     simp only[l2,Instr.mapUpdate,Sem.run_bind,run_underlying i5,Result.andThen_ok,Go.MapKept.run_getObj_map l3,Go.MapKept.run_checkKey hkt f1,Go.MapKept.run_findKey hkt g1,run_setObj_map _ l3,hj,Option.map_some,Option.getD_some,g3,run_keyThatStays f1]
     rfl
    ·rw[hmod]
     have hil:i0<l.length:=(List.getElem?_eq_some_iff.1 g6).1
     have hjl:j<es.toList.length:=(List.getElem?_eq_some_iff.1 g2).1
     exact((set_perm l i0 _ hil).trans ((Kc g4 g6 g2).cons _)).trans (set_perm es.toList j _ hjl).symm
theorem BQ (P:Program) (w:World) (a:Act) (o:Oper) (b:Builtin) (args:Array Operand) (tys:Array TypeId) (h:o.op=.call ⟨.builtin b,args,tys⟩):
 (execOp a.eval o).run P w=(builtin b tys o.type (args.map fun|.const _=>true|_=>false) (args.map a.eval)).run P w:=by
 unfold execOp
 rw[h]
 rfl
theorem Rj (P:Program) (o:Oper) (t t':TypeId) (x q:Operand) (args:Array Operand) (tys:Array TypeId) (ha:args.toList=[x,q]) (ht':tys.toList=[t,t'])
 (h:o.op=.call ⟨.builtin .delete,args,tys⟩):Ab P o (runK (Ge P t (AI x) (AI q))):=by
 have ea:∀ a:Act,args.map a.eval=#[a.eval x,a.eval q]:=fun a=>by apply Array.ext';simp[ha]
 have et:tys=#[t,t']:=by apply Array.ext';simp[ht']
 cases ht:Ar P t with
 |none=>simp only[Ge,ht];exact Ae P o
 |some ty=>
  obtain⟨s1,s2,d,s4⟩:=ty
  obtain⟨i,i1,i2,i3,i4,i5⟩:=Aj ht
  cases d<;>simp only[Ge,ht]<;>try exact Ae P o
  rename_i kt e
  cases hkk:GU (Ar P kt)with
  |none=>exact Ae P o
  |some kd=>
  have hkt:=H0 hkk
  have opx:∀ {ρ:BF} {fr:F} {a:Act},El ρ fr a o.op.operands.toList->At ρ (oV (AI x) fr) (a.eval x):=fun A=>A x (by rw[h];simp[Op.operands,Call.operands,<-Array.mem_toList_iff,ha])
  have opq:∀ {ρ:BF} {fr:F} {a:Act},El ρ fr a o.op.operands.toList->At ρ (oV (AI q) fr) (a.eval q):=fun A=>A q (by rw[h];simp[Op.operands,Call.operands,<-Array.mem_toList_iff,ha])
  intro cf _ fr hp k hk
  simp only[Ag,HF,AN]at hk
  have hs:still P o.op=false:=by rw[h];rfl
  cases hx:oV (AI x) fr<;>rw[hx]at hk<;>try exact Bool.noConfusion hk
  ·obtain⟨b,hb,_⟩:=Bb hk
   refine⟨.tu [],hp,fun k'=>by simp only[Ag,HF,AN,hx,vM,hb,Ad],Ak.refl _,Nat.le_refl _,fun ρ a w w0 A R=>?_,fun hh=>by rw[hs]at hh;cases hh⟩
   have ex:=opx A
   rw[hx]at ex
   have ex':a.eval x=.map none:=ex
   refine⟨.value (.tuple #[]),w,?_,ρ,Ext.refl _ ρ,⟨#[],rfl,trivial⟩,R⟩
   rw[BQ P w a o .delete args tys h,ea,et,ex']
   unfold builtin Builtin.delete_
   simp only[List.getElem?_toArray,List.getElem?_cons_zero,List.getElem?_cons_succ,Sem.run_bind,run_underlying i5,Result.andThen_ok,Go.MapKept.run_checkKey hkt (Ia hb (opq A) (opq A)).1]
   rfl
  ·rename_i id
   obtain⟨next,floor,heap,cur,min,size,cells,n,frz,ps,rfl,hb,hm,hp',hK⟩:=J0 hk
   simp only[vM]at hk
   rw[hK]at hk
   obtain⟨r,hr,hk⟩:=Bb hk
   cases r with
   |none=>
    obtain⟨hfl,hk⟩:=AT hk
    refine⟨.tu [],⟨next,floor,heap⟩,fun k'=>by simp only[Ag,HF,AN,hx,vM,hK,hr,Ad,hfl,AF],Ak.refl _,Nat.le_refl _,fun ρ a w w0 A R=>?_,fun hh=>by rw[hs]at hh;cases hh⟩
    have ex:=opx A
    rw[hx]at ex
    obtain⟨L,es,clock,l1,l2,l3,l4⟩:=EA R ex hb hm hp'
    obtain⟨f1,f2,f3⟩:=D5 l4 (opq A) hr
    rcases f3 with⟨_,g1,g2⟩|⟨i,_,_,_,_,g,_⟩
    ·have hsame:w.heap.setIfInBounds L.b (.map es clock)=w.heap:=by
      apply Array.ext_getElem?
      intro i
      by_cases e:i=L.b
      ·subst e;rw[(heap_set l3).1,l3]
      ·exact(heap_set l3).2 i e
     refine⟨.value (.tuple #[]),w,?_,ρ,Ext.refl _ ρ,⟨#[],rfl,trivial⟩,R⟩
     rw[BQ P w a o .delete args tys h,ea,et,l2]
     unfold builtin Builtin.delete_
     simp only[List.getElem?_toArray,List.getElem?_cons_zero,List.getElem?_cons_succ,Sem.run_bind,run_underlying i5,Result.andThen_ok,Go.MapKept.run_getObj_map l3,Go.MapKept.run_checkKey hkt f1,Go.MapKept.run_findKey hkt g1,run_setObj_map _ l3,hsame]
     rfl
    ·cases g
   |some i0=>
    obtain⟨h',p1,p2,p3,p4⟩:=My hb hm hp' hk
    refine⟨.tu [],h',fun k'=>by simp only[Ag,HF,AN,hx,vM,hK,hr,Ad,p1],p2,by rw[p3];exact Nat.le_refl _,fun ρ a w w0 A R=>?_,fun hh=>by rw[hs]at hh;cases hh⟩
    have ex:=opx A
    rw[hx]at ex
    obtain⟨L,es,clock,l1,l2,l3,l4⟩:=EA R ex hb hm hp'
    obtain⟨f1,f2,f3⟩:=D5 l4 (opq A) hr
    rcases f3 with⟨g,_⟩|⟨i',j,e',l,kv,g,g1,g2,g3,g4,g5,g6,g7,g8,g9⟩
    ·cases g
    ·cases g
     have hjl:j<es.size:=by have:=(List.getElem?_eq_some_iff.1 g2).1;simpa using this
     refine⟨.value (.tuple #[]),_,?_,ρ,Ext.refl _ ρ,⟨#[],rfl,trivial⟩,p4 ρ w w0 L es clock (es.eraseIdxIfInBounds j) clock R l1 l3 ⟨⟨l.eraseIdx i0,?_,g5.erase i0⟩,stamped_erase l4.st j⟩⟩
     ·rw[BQ P w a o .delete args tys h,ea,et,l2]
      unfold builtin Builtin.delete_
      simp only[List.getElem?_toArray,List.getElem?_cons_zero,List.getElem?_cons_succ,Sem.run_bind,run_underlying i5,Result.andThen_ok,Go.MapKept.run_getObj_map l3,Go.MapKept.run_checkKey hkt f1,Go.MapKept.run_findKey hkt g1,run_setObj_map _ l3]
      rfl
     ·unfold Array.eraseIdxIfInBounds
      rw[dif_pos hjl,Array.toList_eraseIdx]
      exact Kc g4 g6 g2
theorem RD (P:Program) (o:Oper) (t kt e:TypeId) (x:Operand) (args:Array Operand) (tys:Array TypeId) (ha:args.toList=[x]) (ht':tys.toList=[t]) (hm':KF P (some t)=true) (hu:P.underlying t=some (.map kt e))
 (h:o.op=.call ⟨.builtin .len,args,tys⟩):Ab P o (G5 (AI x)):=by
 have ea:∀ a:Act,args.map a.eval=#[a.eval x]:=fun a=>by apply Array.ext';simp[ha]
 have et:tys=#[t]:=by apply Array.ext';simp[ht']
 have hs:still P o.op=false:=by
  rw[h]
  show(!KF P tys.toList.head?)=false
  rw[ht']
  show(!KF P (some t))=false
  rw[hm'];rfl
 refine Ab.pure hs fun cf fr hp k hk=>?_
 simp only[G5,AN]at hk
 cases hx:oV (AI x) fr<;>rw[hx]at hk<;>try exact Bool.noConfusion hk
 ·refine⟨.i .i64 (.ofNat 0),fun k'=>by simp only[G5,AN,hx,vM],fun ρ a A w w0 R=>?_⟩
  have ex:=A x (by rw[h];simp[Op.operands,Call.operands,<-Array.mem_toList_iff,ha])
  rw[hx]at ex
  have ex':a.eval x=.map none:=ex
  refine⟨.int .i64 0,?_,rfl⟩
  rw[BQ P w a o .len args tys h,ea,et,ex']
  unfold builtin Builtin.len_
  simp only[List.getElem?_toArray,List.getElem?_cons_zero,Sem.run_bind,run_underlying hu,Result.andThen_ok]
  rfl
 ·rename_i id
  obtain⟨next,floor,heap,cur,min,size,cells,n,frz,ps,rfl,hb,hm,hp',hK⟩:=J0 hk
  refine⟨.i .i64 (.ofNat ps.length),fun k'=>by simp only[G5,AN,hx,vM,hK],fun ρ a A w w0 R=>?_⟩
  have ex:=A x (by rw[h];simp[Op.operands,Call.operands,<-Array.mem_toList_iff,ha])
  rw[hx]at ex
  obtain⟨L,es,clock,l1,l2,l3,l4⟩:=EA R ex hb hm hp'
  obtain⟨l,m1,m2⟩:=l4.rel
  have hsz:es.size=ps.length:=by
   have:=m1.length_eq
   rw[m2.length,this];simp
  refine⟨.int .i64 (es.size:Int),?_,by rw[hsz];rfl⟩
  rw[BQ P w a o .len args tys h,ea,et,l2]
  unfold builtin Builtin.len_
  simp only[List.getElem?_toArray,List.getElem?_cons_zero,Sem.run_bind,run_underlying hu,Result.andThen_ok,Go.MapKept.run_getObj_map l3]
  rfl
theorem Qb {h:H} {k:V->H->Bool} (hk:D3.newM h k=true):
 ∃ h',(∀ k',D3.newM h k'=k' (.m h.next) h')/\Ak h h'/\B.val h.next<=B.val h'.next/\
  ∀ ρ w w0,Aw ρ h w w0->KN h.floor ρ w0 (.m h.next) h' (.map (some w.heap.size)) (w.alloc (.map #[] 0)):=by
 obtain⟨next,floor,heap⟩:=h
 obtain⟨hp,h4,h5,h6⟩:=Bp next (⟨0,7,0,.o,0,0⟩:E0) heap
 obtain⟨nx,h7,h8⟩:=Ga next
 refine⟨⟨nx,floor,hp⟩,fun k'=>by unfold D3.newM;simp only[B6];rw[h4,h7],⟨rfl,fun hf id hid=>h6 id (fun e=>by rw[e]at hid;exact absurd hf (Nat.not_le.2 hid))⟩,by show B.val next<=B.val nx;omega,fun ρ w w0 R=>?_⟩
 have hnone:ρ next 0=none:=by
  cases hr:ρ next 0 with
  |none=>rfl
  |some L=>have:=R.ids _ _ _ hr;exact absurd this (Nat.lt_irrefl _)
 have hne:∀ id g L,ρ id g=some L->¬(id=next):=fun id g L hr he=>by
  have:=R.ids _ _ _ hr;rw[he]at this;exact absurd this (Nat.lt_irrefl _)
 have hle:=BF.JH (⟨w.heap.size,0,0,0,none⟩:Loc) hnone
 refine⟨ρ.put next 0 ⟨w.heap.size,0,0,0,none⟩,Ext.put hnone R.Kg,⟨_,BF.Da _ _ _ _,rfl⟩,?_⟩
 have hcase:∀ {id g L},ρ.put next 0 ⟨w.heap.size,0,0,0,none⟩ id g=some L->(id=next/\g=0/\L=⟨w.heap.size,0,0,0,none⟩)\/ρ id g=some L:=by
  intro id g L hL
  by_cases e:id=next/\g=0
  ·left;obtain⟨rfl,rfl⟩:=e;rw[BF.Da]at hL;exact⟨rfl,rfl,(Option.some.inj hL).symm⟩
  ·right;rwa [BF.EL _ _ _ _ e]at hL
 refine⟨fun id g L hL=>?_,fun id g L hL=>?_,fun id g L id' g' L' hL hL' hb=>?_,?_,fun b hb=>?_,fun id g L hL hf=>?_,R.tp,R.os,R.out,by rw[Bm];exact Nat.le_succ_of_le R.I1,fun id L Af hL hblk kc hm=>?_,R.Mu.of fun id g L Af hL hblk hg hm=>?_⟩
 ·rcases hcase hL with⟨rfl,rfl,rfl⟩|hL
  ·exact⟨_,h5,Nat.le_refl _,by rw[Bm];exact Nat.lt_succ_self _,Nat.le_refl _,fun _=>Nat.le_refl _,fun _=>rfl,fun hm=>by have hm:7<=0:=hm;omega⟩
  ·obtain⟨Af,a1,a2,a3,a4,a5,a6,a7⟩:=R.loc _ _ _ hL
   refine⟨Af,(h6 id (hne _ _ _ hL)).trans a1,a2,by rw[Bm];omega,a4,a5,a6,fun hm=>?_⟩
   obtain⟨c',el',b1,b2,b3,b4⟩:=a7 hm
   refine⟨c',el',b1.congr (BA _ _ a3),b2,b3,fun i i1 i2=>?_⟩
   obtain⟨v,x,d1,d2,d3⟩:=b4 i i1 i2
   exact⟨v,x,d1,d2,At.up hle _ _ d3⟩
 ·show B.val id<B.val nx
  rcases hcase hL with⟨rfl,rfl,rfl⟩|hL
  ·rw[h8];exact Nat.lt_succ_self _
  ·have:B.val id<B.val next:=R.ids _ _ _ hL
   rw[h8];omega
 ·rcases hcase hL with⟨i1,i2,i3⟩|hM<;>rcases hcase hL' with⟨j1,j2,j3⟩|hM'
  ·exact⟨i1.trans j1.symm,by rw[i3,j3]⟩
  ·obtain⟨_,_,_,a3,_⟩:=R.loc _ _ _ hM'
   rw[<-hb,i3]at a3;exact absurd a3 (Nat.lt_irrefl _)
  ·obtain⟨_,_,_,a3,_⟩:=R.loc _ _ _ hM
   rw[hb,j3]at a3;exact absurd a3 (Nat.lt_irrefl _)
  ·exact R.sep _ _ _ _ _ _ hM hM' hb
 ·show B.val floor<=B.val nx
  have:B.val floor<=B.val next:=R.Kg
  rw[h8];omega
 ·rw[BA _ _ (Nat.lt_of_lt_of_le hb R.I1)]
  exact R.IH b hb
 ·rcases hcase hL with⟨rfl,rfl,rfl⟩|hL
  ·exact R.I1
  ·exact R.up _ _ _ hL hf
 ·rcases hcase hL with⟨rfl,_,rfl⟩|hL
  ·have hb2:hp.get id=some Af:=hblk
   rw[h5]at hb2
   have hb3:=Option.some.inj hb2
   subst hb3
   cases kc with
   |true=>exact absurd hm (by show ¬7=0+11;decide)
   |false=>exact⟨_,DY _ _,#[],0,rfl,[],⟨rfl,fun i kv hi=>by simp at hi⟩,⟨⟨[],.nil,.nil⟩,stamped_empty 0⟩⟩
  ·obtain⟨_,_,_,a3,_⟩:=R.loc _ _ _ hL
   obtain⟨o,q1,q2⟩:=R.mp id L Af hL ((h6 id (hne _ _ _ hL)).symm.trans hblk) kc hm
   exact⟨o,(BA _ _ a3).trans q1,q2.up hle⟩
 ·rcases hcase hL with⟨rfl,_,rfl⟩|hL
  ·have hb2:hp.get id=some Af:=hblk
   rw[h5]at hb2
   have hb3:=Option.some.inj hb2
   subst hb3
   have hm:7=0+9:=hm
   exact absurd hm (by decide)
  ·obtain⟨_,_,_,a3,_⟩:=R.loc _ _ _ hL
   exact⟨hL,(h6 id (hne _ _ _ hL)).symm.trans hblk,BA _ _ a3⟩
theorem Py (P:Program) (o:Oper) (t:TypeId) (r:Option Operand) (h:o.op=.makeMap t r):Ab P o (runK (Fl P t (r.map AI))):=by
 cases ht:Ar P t with
 |none=>simp only[Fl,ht];exact Ae P o
 |some ty=>
  obtain⟨s1,s2,d,s4⟩:=ty
  obtain⟨i,i1,i2,i3,i4,i5⟩:=Aj ht
  cases d<;>simp only[Fl,ht]<;>try exact Ae P o
  intro cf _ fr hp k hk
  cases r with
  |none=>
   have hk':D3.newM hp k=true:=hk
   obtain⟨h',p1,p2,p3,p4⟩:=Qb hk'
   refine⟨_,h',fun k'=>p1 k',p2,p3,fun ρ a w w0 A R=>?_,fun hs=>by rw[h]at hs;exact Bool.noConfusion hs⟩
   exact⟨.value (.map (some w.heap.size)),w.alloc (.map #[] 0),by unfold execOp;rw[h];rfl,p4 ρ w w0 R⟩
  |some r=>
   simp only[Ag,D3,Option.map_some,AN]at hk
   obtain⟨kd,n,hv,hk⟩:=Cq hk
   obtain⟨h',p1,p2,p3,p4⟩:=Qb hk
   refine⟨.m hp.next,h',fun k'=>by simp only[Ag,D3,Option.map_some,AN,hv,Ct,p1],p2,p3,fun ρ a w w0 A R=>?_,fun hs=>by rw[h]at hs;exact Bool.noConfusion hs⟩
   have er:=A r (by rw[h];simp[Op.operands])
   rw[hv]at er
   have er':a.eval r=.int kd n:=er
   refine⟨.value (.map (some w.heap.size)),w.alloc (.map #[] 0),?_,p4 ρ w w0 R⟩
   unfold execOp
   rw[h]
   simp only[Option.map_some,er',Instr.makeMap,Sem.run_bind,run_underlying i5,Result.andThen_ok]
   rfl
end Go.Ev
namespace Go.Ev
open Go Go.MapKept Go.Conc
theorem Nl {v:V} {z:Unit->Bool} {k:B->Bool} (h:vC v z k=true):(v=.c0/\z ()=true)\/∃ id,v=.c id/\k id=true:=by
 cases v<;>first|exact .inl ⟨rfl,h⟩|exact .inr ⟨_,rfl,h⟩|exact Bool.noConfusion h
theorem O2.uniq {t:T V} {n:Nat} {vs ws:List V} (a:O2 t n vs) (b:O2 t n ws):vs=ws:=by
 apply List.ext_getElem (by rw[a.1,b.1])
 intro i h1 h2
 have e1:vs[i]? =some vs[i]:=by simp
 have e2:ws[i]? =some ws[i]:=by simp
 have b1:=a.2 i _ e1
 rw[b.2 i _ e2]at b1
 exact(Option.some.inj b1).symm
theorem JQ {h:H} {id:B} {k:B->B->T E0->Nat->Nat->Nat->Nat->Nat->List V->Bool} (hk:VG h id k=true):
 ∃ next floor heap cur min size cells n fr vs,h=⟨next,floor,heap⟩/\heap.get id=some ⟨cur,min,size,cells,n,fr⟩/\min=cur+11/\O2 cells (n/2) vs/\∀ k',VG h id k'=k' next floor heap cur min size fr (n%2) vs:=by
 obtain⟨next,floor,heap⟩:=h
 simp only[VG,B6]at hk
 obtain⟨⟨cur,min,size,cells,n,fr⟩,hb,hk⟩:=Bb hk
 simp only[BC]at hk
 obtain⟨hm,hk⟩:=AT hk
 obtain⟨vs,h1,h2,h3⟩:=H8 _ _ _ _ hk
 refine⟨next,floor,heap,cur,min,size,cells,n,fr,vs,rfl,hb,Nat.eq_of_beq_eq_true hm,⟨h2,fun i v hi=>?_⟩,fun k'=>?_⟩
 ·have hl:i<n.div 2:=by
   rw[<-h2];exact(List.getElem?_eq_some_iff.1 hi).1
  have:=h3 i hl
  rw[Nat.zero_add]at this
  rw[this];exact hi
 ·simp only[VG,B6,hb,Ad,BC,hm,AF,h1];rfl
theorem LP {ρ:BF} {h:H} {w w0:World} {id:B} {x:Value} {Af:E0} {vs:List V} (R:Aw ρ h w w0) (hv:At ρ (.c id) x) (hb:h.heap.get id=some Af) (hm:Af.min=Af.cur+11) (hp:O2 Af.cells (Af.el/2) vs):
 ∃ L buf s r,ρ id 0=some L/\x=.chan (some L.b)/\w.heap[L.b]? =some (.chan Af.size buf (Nat.beq (Af.el%2) 1) s r false)/\BG ρ vs buf.toList:=by
 obtain⟨L,h1,h2⟩:=hv
 obtain⟨o,h3,buf,s,r,ws,rfl,h4,h5⟩:=R.mp id L Af h1 hb true hm
 obtain rfl:=hp.uniq h4
 exact⟨L,buf,s,r,h1,h2,h3,h5⟩
theorem ML {next floor:B} {heap:T E0} {id:B} {cur min size fr sh:Nat} {cells:T V} {n:Nat} {ws:List V} {k:H->Bool} (hb:heap.get id=some ⟨cur,min,size,cells,n,fr⟩) (hm:min=cur+11) (hsh:sh<2)
 (hk:Mf next floor heap id cur min size fr sh ws k=true):
 ∃ h',(∀ k',Mf next floor heap id cur min size fr sh ws k'=k' h')/\Ak ⟨next,floor,heap⟩ h'/\h'.next=next/\
  ∀ ρ w w0 L o buf s r,Aw ρ ⟨next,floor,heap⟩ w w0->ρ id 0=some L->w.heap[L.b]? =some o->BG ρ ws buf.toList->Aw ρ h' (w.setChan L.b size buf (Nat.beq sh 1) s r false) w0:=by
 unfold Mf at hk
 obtain⟨hfl,hk⟩:=AT hk
 obtain⟨t,h1,h2,h3⟩:=EF _ _ _ _ hk
 obtain⟨hp',h4,h5,h6⟩:=Bp id (⟨cur,min,size,t,2*ws.length+sh,fr⟩:E0) heap
 refine⟨⟨next,floor,hp'⟩,fun k'=>by unfold Mf;rw[hfl];simp only[AF];rw[h1,A8];exact h4 _,⟨rfl,fun hf i hi=>h6 i (fun e=>by rw[e]at hi;exact absurd (Dy hfl) (Nat.not_le.2 hi))⟩,rfl,fun ρ w w0 L o buf s r R hL hwb m=>?_⟩
 unfold World.setChan
 have oth:∀ {i:B} {g:Nat} {M:Loc},ρ i g=some M->i≠id->({w with heap:=w.heap.setIfInBounds L.b (.chan size buf (Nat.beq sh 1) s r false)}:World).heap[M.b]? =w.heap[M.b]? :=fun {i g M} hM hi=>EM hwb fun e=>hi (R.sep _ _ _ _ _ _ hM hL e).1
 refine⟨fun i g M hM=>?_,R.ids,R.sep,R.Kg,fun b hb'=>?_,R.up,R.tp,R.os,R.out,by rw[DR];exact R.I1,fun i M Af hM hblk kc hmm=>?_,R.Mu.of fun i g M Af hM hblk hg hmm=>?_⟩
 ·obtain⟨Af,a1,a2,a3,a4,a5,a6,a7⟩:=R.loc _ _ _ hM
  by_cases hi:i=id
  ·subst hi
   have hbe:Af=⟨cur,min,size,cells,n,fr⟩:=by
    have:heap.get i=some Af:=a1
    rw[hb]at this;exact(Option.some.inj this).symm
   subst hbe
   refine⟨_,h5,a2,by rw[DR];exact a3,a4,a5,a6,fun hmg=>?_⟩
   have h1':g<=cur:=a2
   have h2':min<=g:=hmg
   omega
  ·refine⟨Af,(h6 i hi).trans a1,a2,by rw[DR];exact a3,a4,a5,a6,fun hmg=>?_⟩
   obtain⟨c,el,b1,b2,b3,b4⟩:=a7 hmg
   exact⟨c,el,b1.congr (oth hM hi),b2,b3,b4⟩
 ·rw[EM hwb]
  ·exact R.IH b hb'
  ·have:=R.up _ _ _ hL (Dy hfl);omega
 ·by_cases hi:i=id
  ·subst hi
   have hb2:hp'.get i=some Af:=hblk
   rw[h5]at hb2
   have hb3:=Option.some.inj hb2
   subst hb3
   have:M=L:=by rw[hM]at hL;exact Option.some.inj hL
   subst this
   cases kc with
   |false=>exact absurd hmm (by show ¬min=cur+7;omega)
   |true=>
   refine⟨_,Ja hwb,buf,s,r,ws,?_,⟨?_,fun j v hj=>?_⟩,m⟩
   ·show _=Obj.chan size buf (Nat.beq ((2*ws.length+sh)%2) 1) s r false
    rw[show(2*ws.length+sh)%2=sh by omega]
   ·show ws.length=(2*ws.length+sh)/2
    omega
   ·have:=h2 _ _ hj;rwa [Nat.zero_add]at this
  ·obtain⟨o1,q1,q2⟩:=R.mp i M Af hM ((h6 i hi).symm.trans hblk) kc hmm
   exact⟨o1,(oth hM hi).trans q1,q2⟩
 ·by_cases hi:i=id
  ·subst hi
   have hb2:hp'.get i=some Af:=hblk
   rw[h5]at hb2
   have hb3:=Option.some.inj hb2
   subst hb3
   have hmm:min=cur+9:=hmm
   omega
  ·exact⟨hM,(h6 i hi).symm.trans hblk,oth hM hi⟩
theorem XL {h:H} {n:Nat}:∃ h',(∀ k':V->H->Bool,(hK h fun next floor heap=>T.GO next ⟨0,11,n,.o,0,0⟩ heap fun heap=>B.PX next fun next'=>k' (.c next) ⟨next',floor,heap⟩)=k' (.c h.next) h')/\Ak h h'/\B.val h.next<=B.val h'.next/\
 ∀ ρ w w0,Aw ρ h w w0->KN h.floor ρ w0 (.c h.next) h' (.chan (some w.heap.size)) (w.alloc (.chan n #[] false 0 0 false)):=by
 obtain⟨next,floor,heap⟩:=h
 obtain⟨hp,h4,h5,h6⟩:=Bp next (⟨0,11,n,.o,0,0⟩:E0) heap
 obtain⟨nx,h7,h8⟩:=Ga next
 refine⟨⟨nx,floor,hp⟩,fun k'=>by simp only[B6];rw[h4,h7],⟨rfl,fun hf id hid=>h6 id (fun e=>by rw[e]at hid;exact absurd hf (Nat.not_le.2 hid))⟩,by show B.val next<=B.val nx;omega,fun ρ w w0 R=>?_⟩
 have hnone:ρ next 0=none:=by
  cases hr:ρ next 0 with
  |none=>rfl
  |some L=>have:=R.ids _ _ _ hr;exact absurd this (Nat.lt_irrefl _)
 have hne:∀ id g L,ρ id g=some L->¬(id=next):=fun id g L hr he=>by
  have:=R.ids _ _ _ hr;rw[he]at this;exact absurd this (Nat.lt_irrefl _)
 have hle:=BF.JH (⟨w.heap.size,0,n,0,none⟩:Loc) hnone
 refine⟨ρ.put next 0 ⟨w.heap.size,0,n,0,none⟩,Ext.put hnone R.Kg,⟨_,BF.Da _ _ _ _,rfl⟩,?_⟩
 have hcase:∀ {id g L},ρ.put next 0 ⟨w.heap.size,0,n,0,none⟩ id g=some L->(id=next/\g=0/\L=⟨w.heap.size,0,n,0,none⟩)\/ρ id g=some L:=by
  intro id g L hL
  by_cases e:id=next/\g=0
  ·left;obtain⟨rfl,rfl⟩:=e;rw[BF.Da]at hL;exact⟨rfl,rfl,(Option.some.inj hL).symm⟩
  ·right;rwa [BF.EL _ _ _ _ e]at hL
 refine⟨fun id g L hL=>?_,fun id g L hL=>?_,fun id g L id' g' L' hL hL' hb=>?_,?_,fun b hb=>?_,fun id g L hL hf=>?_,R.tp,R.os,R.out,by rw[Bm];exact Nat.le_succ_of_le R.I1,fun id L Af hL hblk kc hm=>?_,R.Mu.of fun id g L Af hL hblk hg hm=>?_⟩
 ·rcases hcase hL with⟨rfl,rfl,rfl⟩|hL
  ·exact⟨_,h5,Nat.le_refl _,by rw[Bm];exact Nat.lt_succ_self _,Nat.zero_le _,fun _=>Nat.le_refl _,fun _=>rfl,fun hm=>by have hm:11<=0:=hm;omega⟩
  ·obtain⟨Af,a1,a2,a3,a4,a5,a6,a7⟩:=R.loc _ _ _ hL
   refine⟨Af,(h6 id (hne _ _ _ hL)).trans a1,a2,by rw[Bm];omega,a4,a5,a6,fun hm=>?_⟩
   obtain⟨c',el',b1,b2,b3,b4⟩:=a7 hm
   refine⟨c',el',b1.congr (BA _ _ a3),b2,b3,fun i i1 i2=>?_⟩
   obtain⟨v,x,d1,d2,d3⟩:=b4 i i1 i2
   exact⟨v,x,d1,d2,At.up hle _ _ d3⟩
 ·show B.val id<B.val nx
  rcases hcase hL with⟨rfl,rfl,rfl⟩|hL
  ·rw[h8];exact Nat.lt_succ_self _
  ·have:B.val id<B.val next:=R.ids _ _ _ hL
   rw[h8];omega
 ·rcases hcase hL with⟨i1,i2,i3⟩|hM<;>rcases hcase hL' with⟨j1,j2,j3⟩|hM'
  ·exact⟨i1.trans j1.symm,by rw[i3,j3]⟩
  ·obtain⟨_,_,_,a3,_⟩:=R.loc _ _ _ hM'
   rw[<-hb,i3]at a3;exact absurd a3 (Nat.lt_irrefl _)
  ·obtain⟨_,_,_,a3,_⟩:=R.loc _ _ _ hM
   rw[hb,j3]at a3;exact absurd a3 (Nat.lt_irrefl _)
  ·exact R.sep _ _ _ _ _ _ hM hM' hb
 ·show B.val floor<=B.val nx
  have:B.val floor<=B.val next:=R.Kg
  rw[h8];omega
 ·rw[BA _ _ (Nat.lt_of_lt_of_le hb R.I1)]
  exact R.IH b hb
 ·rcases hcase hL with⟨rfl,rfl,rfl⟩|hL
  ·exact R.I1
  ·exact R.up _ _ _ hL hf
 ·rcases hcase hL with⟨rfl,_,rfl⟩|hL
  ·have hb2:hp.get id=some Af:=hblk
   rw[h5]at hb2
   have hb3:=Option.some.inj hb2
   subst hb3
   cases kc with
   |false=>exact absurd hm (by show ¬11=0+7;decide)
   |true=>exact⟨_,DY _ _,#[],0,0,[],rfl,⟨by show 0=0/2;rfl,fun i v hi=>by simp at hi⟩,trivial⟩
  ·obtain⟨_,_,_,a3,_⟩:=R.loc _ _ _ hL
   obtain⟨o,q1,q2⟩:=R.mp id L Af hL ((h6 id (hne _ _ _ hL)).symm.trans hblk) kc hm
   exact⟨o,(BA _ _ a3).trans q1,q2.up hle⟩
 ·rcases hcase hL with⟨rfl,_,rfl⟩|hL
  ·have hb2:hp.get id=some Af:=hblk
   rw[h5]at hb2
   have hb3:=Option.some.inj hb2
   subst hb3
   have hm:11=0+9:=hm
   exact absurd hm (by decide)
  ·obtain⟨_,_,_,a3,_⟩:=R.loc _ _ _ hL
   exact⟨hL,(h6 id (hne _ _ _ hL)).symm.trans hblk,BA _ _ a3⟩
theorem Oa (P:Program) (o:Oper) (t:TypeId) (x:Operand) (h:o.op=.makeChan t x):Ab P o (runK (Dt P (Ar P t) (AI x))):=by
 cases ht:Ar P t with
 |none=>exact Ae P o
 |some ty=>
  obtain⟨s1,s2,d,s4⟩:=ty
  obtain⟨i,i1,i2,i3,i4,i5⟩:=Aj ht
  cases d<;>try exact Ae P o
  rename_i dir e
  cases ht2:Ar P e with
  |none=>simp only[Dt,ht2];exact Ae P o
  |some ty2=>
  obtain⟨t1,bytes,t3,t4⟩:=ty2
  obtain⟨j,j1,j2,j3,j4,j5⟩:=Aj ht2
  cases hby:Nat.ble bytes 65536 with
  |false=>simp only[Dt,ht2,hby];exact Ae P o
  |true=>
  simp only[Dt,ht2,hby]
  have hby':bytes<=65536:=Nat.le_of_ble_eq_true hby
  intro cf _ fr hp k hk
  simp only[Ag,ID,AN]at hk
  obtain⟨kd,n,hv,hk⟩:=Cq hk
  obtain⟨m,rfl,hk⟩:=B8 hk
  obtain⟨hc,hk⟩:=AT hk
  have hm:m<=1048576:=Nat.le_of_ble_eq_true hc
  obtain⟨h',p1,p2,p3,p4⟩:=XL (h:=hp) (n:=m)
  refine⟨.c hp.next,h',fun k'=>by simp only[Ag,ID,AN,hv,Ct,BB,hc,AF];exact p1 k',p2,p3,fun ρ a w w0 A R=>?_,fun hs=>by rw[h]at hs;exact Bool.noConfusion hs⟩
  have er:=A x (by rw[h];simp[Op.operands])
  rw[hv]at er
  have er':a.eval x=.int kd (Int.ofNat m):=er
  refine⟨.value (.chan (some w.heap.size)),w.alloc (.chan m #[] false 0 0 false),?_,p4 ρ w w0 R⟩
  unfold execOp
  rw[h]
  have wl:IntKind.i64.wrap (Int.ofNat m)=Int.ofNat m:=wrap_small .i64 m (by simp only[BW];omega)
  have hb0:bytes*m<=68719476736:=by have:=Nat.mul_le_mul hby' hm;omega
  simp only[Cb,Instr.makeChan,er',asInt,asIntOf,Sem.run_bind,Result.andThen_ok,run_underlying i5,Sem.run_pure',Cz j1,wl,j3]
  rw[if_neg (by
   have h2:((bytes:Nat):Int)*(m:Int)<=68719476736:=by rw[<-Int.natCast_mul];omega
   simp only[IntKind.max,IntKind.signed,IntKind.bits]
   simp
   omega)]
  simp only[Sem.run_bind,Sem.run_pure',Result.andThen_ok]
  rfl
theorem UB (P:Program) (o:Oper) (x:Operand) (args:Array Operand) (tys:Array TypeId) (ha:args.toList=[x])
 (h:o.op=.call ⟨.builtin .close,args,tys⟩):Ab P o (runK ⟨J8 (AI x)⟩):=by
 have ea:∀ a:Act,args.map a.eval=#[a.eval x]:=fun a=>by apply Array.ext';simp[ha]
 intro cf _ fr hp k hk
 simp only[Ag,J8,AN]at hk
 have hs:still P o.op=false:=by rw[h];rfl
 rcases Nl hk with⟨_,hk⟩|⟨id,hx,hk⟩
 ·exact Bool.noConfusion hk
 obtain⟨next,floor,heap,cur,min,size,cells,n,frz,vs,rfl,hb,hm,hp',hK⟩:=JQ hk
 rw[hK]at hk
 obtain⟨hsh,hk⟩:=AT hk
 obtain⟨h',q1,q2,q3,q4⟩:=ML hb hm (by decide) hk
 refine⟨.tu [],h',fun k'=>by simp only[Ag,J8,AN,hx,vC,hK,hsh,AF,q1],q2,by rw[q3];exact Nat.le_refl _,fun ρ a w w0 A R=>?_,fun hh=>by rw[hs]at hh;cases hh⟩
 have ex:=A x (by rw[h];simp[Op.operands,Call.operands,<-Array.mem_toList_iff,ha])
 rw[hx]at ex
 obtain⟨L,buf,s,r,l1,l2,l3,l4⟩:=LP R ex hb hm hp'
 have hsh':n%2=0:=Nat.eq_of_beq_eq_true hsh
 simp only[hsh']at l3
 have R':=q4 ρ w w0 L _ buf s r R l1 l3 l4
 refine⟨.value (.tuple #[]),_,?_,ρ,Ext.refl _ ρ,⟨#[],rfl,trivial⟩,R'⟩
 rw[BQ P w a o .close args tys h,ea,l2]
 unfold builtin
 simp only[Cb]
 rw[run_close_open _ _ l3]
 rfl
def SE (P:Program) (o:Oper) (r:SH):Prop:=∀ t h k,r t h k=true->∃ v h',(∀ k',r t h k'=k' v h')/\Ak h h'/\B.val h.next<=B.val h'.next/\
 ∀ ρ a w w0,El ρ t a o.op.operands.toList->Aw ρ h w w0->∃ cases bl shp,(execOp a.eval o).run P w=.ok (.comm cases bl shp) w/\
  ∀ fr cs es,stepG P true (Conc.G fr cs) w=.comm (Conc.G fr cs) cases bl shp w es->∃ x w',step P (solo (Conc.G fr cs) w)=.next (solo (Conc.G (fr.finish x) cs) w')/\KN h.floor ρ w0 v h' x w'
theorem KP (P:Program) (o:Oper):SE P o fun _ _ _=>false:=fun _ _ _ h=>Bool.noConfusion h
theorem XD (P:Program) (o:Oper) (x y:Operand) (h:o.op=.send x y):SE P o (Mp (AI x) (AI y)):=by
 intro fr hp k hk
 simp only[Mp,AN,Au]at hk
 rcases Nl hk with⟨_,hk⟩|⟨id,hx,hk⟩
 ·exact Bool.noConfusion hk
 obtain⟨next,floor,heap,cur,min,size,cells,n,frz,vs,rfl,hb,hm,hp',hK⟩:=JQ hk
 rw[hK]at hk
 obtain⟨hsh,hk⟩:=AT hk
 obtain⟨hrm,hk⟩:=AT hk
 obtain⟨h',q1,q2,q3,q4⟩:=ML hb hm (by decide) hk
 refine⟨.u,h',fun k'=>by simp only[Mp,AN,Au,hx,vC,hK,hsh,hrm,AF,q1],q2,by rw[q3];exact Nat.le_refl _,fun ρ a w w0 A R=>?_⟩
 have ex:=A x (by rw[h];simp[Op.operands])
 have ey:=A y (by rw[h];simp[Op.operands])
 rw[hx]at ex
 obtain⟨L,buf,s,r,l1,l2,l3,l4⟩:=LP R ex hb hm hp'
 have hsh':n%2=0:=Nat.eq_of_beq_eq_true hsh
 simp only[hsh']at l3
 have l3':w.heap[L.b]? =some (.chan size buf false s r false):=l3
 have hroom:buf.size<size:=by
  have h1:vs.length+1<=size:=Nat.le_of_ble_eq_true hrm
  have h2:=l4.length
  simp at h2
  omega
 have R':=q4 ρ w w0 L _ (buf.push (a.eval y)) (s+1) r R l1 l3 (by
  rw[Jv,Array.toList_push]
  exact BG.append l4 ⟨ey,trivial⟩)
 refine⟨_,_,_,by unfold execOp;rw[h];rfl,fun fr cs es hst=>?_⟩
 rw[l2]at hst
 exact⟨undef,_,step_lone_send_room hst l3' hroom,ρ,Ext.refl _ ρ,trivial,R'⟩
/--what is known of one case:whether it is ready,and what comes of it -/
def QQ (ρ:BF) (h:H) (w:World) (v z:V) (s:VF) (cc:CommCase):Prop:=
 At ρ z cc.zero/\match s with
 |.no=>NoWay w cc
 |.shut=>∃ L cap s r,cc=rcase L cc.zero/\w.heap[L]? =some (.chan cap #[] true s r false)
 |.hd u us=>∃ id L cur size cells n fr buf s r,v=.c id/\h.heap.get id=some ⟨cur,cur+11,size,cells,n,fr⟩/\O2 cells (n/2) (u::us)/\ρ id 0=some L/\cc=rcase L.b cc.zero/\
   w.heap[L.b]? =some (.chan size buf (Nat.beq (n%2) 1) s r false)/\BG ρ (u::us) buf.toList
theorem T7 {h:H} {v z:V} {k:VF->Bool} (hk:X6 h v k=true):∃ s,(∀ k',X6 h v k'=k' s)/\∀ ρ w w0 x zz,Aw ρ h w w0->At ρ v x->At ρ z zz->QQ ρ h w v z s {chan:=x,send:=none,zero:=zz}:=by
 unfold X6 at hk
 rcases Nl hk with⟨hv,hk1⟩|⟨id,hv,hk1⟩
 ·subst hv
  refine⟨.no,fun k'=>rfl,fun ρ w w0 x zz R hx hz=>⟨hz,?_⟩⟩
  have:x=.chan none:=hx
  subst this
  exact noWay_nil none
 ·subst hv
  obtain⟨next,floor,heap,cur,min,size,cells,n,frz,vs,rfl,hb,hm,hp',hK⟩:=JQ hk1
  have e:∀ k':VF->Bool,X6 ⟨next,floor,heap⟩ (.c id) k'=VG ⟨next,floor,heap⟩ id fun _ _ _ _ _ _ _ sh vs=>k' (Th sh vs):=fun _=>rfl
  refine⟨Th (n%2) vs,fun k'=>by rw[e,hK],fun ρ w w0 x zz R hx hz=>⟨hz,?_⟩⟩
  obtain⟨L,buf,s,r,l1,l2,l3,l4⟩:=LP R hx hb hm hp'
  subst hm
  cases vs with
  |cons u us=>exact⟨id,L,cur,size,cells,n,frz,buf,s,r,rfl,hb,hp',l1,by rw[l2];rfl,l3,l4⟩
  |nil=>
   have hbe:buf=#[]:=by
    have:=l4.length
    simp at this
    exact Array.eq_empty_of_size_eq_zero this.symm
   subst hbe
   have l3':w.heap[L.b]? =some (.chan size #[] (Nat.beq (n%2) 1) s r false):=l3
   show match Th (n%2) []with|.no=>_|.shut=>_|.hd u us=>_
   unfold Th
   have h2:n%2=0\/n%2=1:=by omega
   rcases h2 with h2|h2
   ·rw[h2]at l3'⊢
    show NoWay w _
    rw[l2]
    exact noWay_recv l3'
   ·rw[h2]at l3'⊢
    exact⟨L.b,size,s,r,by rw[l2];rfl,l3'⟩
theorem Qc {h:H} {id:B} {u:V} {us:List V} {cur size:Nat} {cells:T V} {n fr:Nat} {k:H->Bool} (hb:h.heap.get id=some ⟨cur,cur+11,size,cells,n,fr⟩) (hk:KZ h (.c id) us k=true):
 ∃ h',(∀ k',KZ h (.c id) us k'=k' h')/\Ak h h'/\h'.next=h.next/\∀ ρ w w0 L buf s r,Aw ρ h w w0->ρ id 0=some L->w.heap[L.b]? =some (.chan size buf (Nat.beq (n%2) 1) s r false)->BG ρ (u::us) buf.toList->
  Aw ρ h' (w.setChan L.b size (buf.extract 1 buf.size) (Nat.beq (n%2) 1) s (r+1) false) w0:=by
 have hk':(VG h id fun next floor heap cur min size fr sh _=>Mf next floor heap id cur min size fr sh us k)=true:=hk
 obtain⟨next,floor,heap,cur',min,size',cells',n',frz,vs,rfl,hb',hm,hp',hK⟩:=JQ hk'
 have hbb:heap.get id=some ⟨cur,cur+11,size,cells,n,fr⟩:=hb
 rw[hb']at hbb
 cases hbb
 rw[hK]at hk'
 obtain⟨h',q1,q2,q3,q4⟩:=ML hb' rfl (Nat.mod_lt _ (by decide)) hk'
 have e:∀ k':H->Bool,KZ ⟨next,floor,heap⟩ (.c id) us k'=VG ⟨next,floor,heap⟩ id fun next floor heap cur min size fr sh _=>Mf next floor heap id cur min size fr sh us k':=fun _=>rfl
 refine⟨h',fun k'=>by rw[e,hK,q1],q2,q3,fun ρ w w0 L buf s r R hL hw hl=>?_⟩
 refine q4 ρ w w0 L _ _ s (r+1) R hL hw ?_
 have:(buf.extract 1 buf.size).toList=buf.toList.tail:=by
  rw[Array.toList_extract]
  simp[List.extract_eq_drop_take]
  exact List.take_of_length_le (by simp)
 rw[this]
 cases hb3:buf.toList with
 |nil=>rw[hb3]at hl;exact hl.elim
 |cons y ys=>rw[hb3]at hl;exact hl.2
theorem Xi {h:H}:∀ {vs zs:List V} {k:List VF->Bool},vs.length=zs.length->SX vs h k=true->∃ ss,(∀ k',SX vs h k'=k' ss)/\ss.length=vs.length/\∀ ρ w w0 (ccs:List CommCase),Aw ρ h w w0->ccs.length=vs.length->
 (∀ (m:Nat) v z c,vs[m]? =some v->zs[m]? =some z->ccs[m]? =some c->c.send=none/\At ρ v c.chan/\At ρ z c.zero)->∀ (m:Nat) v z c s,vs[m]? =some v->zs[m]? =some z->ccs[m]? =some c->ss[m]? =some s->QQ ρ h w v z s c:=by
 intro vs
 induction vs with
 |nil=>intro zs k hl hk;exact⟨[],fun _=>rfl,rfl,fun ρ w w0 ccs R _ hc m v z c s hv=>by simp at hv⟩
 |cons v vs ih=>
  intro zs k hl hk
  cases zs with
  |nil=>simp at hl
  |cons z zs=>
  have e:∀ k',SX (v::vs) h k'=X6 h v fun s=>SX vs h fun ss=>k' (s::ss):=fun _=>rfl
  rw[e]at hk
  obtain⟨s,a1,a2⟩:=T7 (z:=z) hk
  rw[a1]at hk
  obtain⟨ss,b1,b2,b3⟩:=ih (zs:=zs) (by simpa using hl) hk
  refine⟨s::ss,fun k'=>by rw[e,a1,b1],by simp[b2],fun ρ w w0 ccs R AQ hc m v' z' c' s' hv hz hcc hs=>?_⟩
  cases ccs with
  |nil=>simp at AQ
  |cons c ccs=>
  cases m with
  |zero=>
   simp at hv hz hcc hs
   subst hv;subst hz;subst hcc;subst hs
   obtain⟨h1,h2,h3⟩:=hc 0 v z c rfl rfl rfl
   have:=a2 ρ w w0 c.chan c.zero R h2 h3
   rw[show c={chan:=c.chan,send:=none,zero:=c.zero} by cases c;simp at h1;rw[h1]]
   exact this
  |succ m=>
   exact b3 ρ w w0 ccs R (by simpa using AQ) (fun m v z c h1 h2 h3=>hc (m+1) v z c (by simpa using h1) (by simpa using h2) (by simpa using h3)) m v' z' c' s' (by simpa using hv) (by simpa using hz) (by simpa using hcc) (by simpa using hs)
def x6:VF->Bool
 |.no=>true
 |_=>false
theorem OK:∀ {ss:List VF} {j:Nat},La ss=some j->∃ s,ss[j]? =some s/\∀ (m:Nat) s',m≠j->ss[m]? =some s'->s'=.no
 |[],j,h=>by cases h
 |.no::r,j,h=>by
  have h':(match La r with|some k=>some (k+1)|none=>none)=some j:=h
  cases hp:La r with
  |none=>rw[hp]at h';cases h'
  |some k=>
   rw[hp]at h'
   cases h'
   obtain⟨s,a1,a2⟩:=OK hp
   refine⟨s,by simpa using a1,fun m s' hm hs=>?_⟩
   cases m with
   |zero=>simp at hs;exact hs.symm
   |succ m=>exact a2 m s' (by omega) (by simpa using hs)
 |.shut::r,j,h=>by
  have h':(match r.all (fun s=>match s with|.no=>true|_=>false)with|true=>some 0|false=>none)=some j:=h
  cases hp:r.all (fun s=>match s with|.no=>true|_=>false)with
  |false=>rw[hp]at h';cases h'
  |true=>
   rw[hp]at h'
   cases h'
   refine⟨.shut,rfl,fun m s' hm hs=>?_⟩
   cases m with
   |zero=>exact absurd rfl hm
   |succ m=>
    have:=List.all_eq_true.1 hp s' (List.mem_of_getElem? (by simpa using hs))
    cases s'<;>first|rfl|exact Bool.noConfusion this
 |.hd v u::r,j,h=>by
  have h':(match r.all (fun s=>match s with|.no=>true|_=>false)with|true=>some 0|false=>none)=some j:=h
  cases hp:r.all (fun s=>match s with|.no=>true|_=>false)with
  |false=>rw[hp]at h';cases h'
  |true=>
   rw[hp]at h'
   cases h'
   refine⟨.hd v u,rfl,fun m s' hm hs=>?_⟩
   cases m with
   |zero=>exact absurd rfl hm
   |succ m=>
    have:=List.all_eq_true.1 hp s' (List.mem_of_getElem? (by simpa using hs))
    cases s'<;>first|rfl|exact Bool.noConfusion this
theorem VN {cases:Array CommCase} (hs:∀ c∈cases.toList,c.send=none) (k:Int) (v:Value) (ok:Bool):
 commResult cases .select k v ok=.tuple (#[goInt k,.bool ok]++(cases.zipIdx.map fun p=>if (p.2:Int)=k then v else p.1.zero)):=by
 unfold commResult
 simp only
 rw[Array.filter_eq_self.2]
 intro p hp
 obtain⟨c,i⟩:=p
 have:=Array.mem_zipIdx hp
 have hc:c∈cases.toList:=by
  rw[this.2.2]
  exact Array.getElem_mem_toList _
 simp[hs c hc]
theorem Pe (l:List CommCase) (f:CommCase×Nat->Value) (i:Nat):(l.toArray.zipIdx.map f).toList[i]? =(l[i]?).map fun c=>f (c,i):=by
 simp[List.getElem?_zipIdx]
 cases l[i]? <;>rfl
theorem Kk {ρ:BF} {zs:List V} {ccs:List CommCase} (hl:ccs.length=zs.length) (hz:∀ (m:Nat) z c,zs[m]? =some z->ccs[m]? =some c->At ρ z c.zero) (hs:∀ c∈ccs,c.send=none) {j:Nat} {v:V} {x:Value} (hv:At ρ v x) (ok:Bool):
 At ρ (JK zs j v ok) (commResult ccs.toArray .select (j:Nat) x ok):=by
 rw[VN (by simpa using hs)]
 refine⟨_,rfl,?_⟩
 show BG ρ (.i .i64 (.ofNat j)::.b ok::zs.set j v) _
 rw[Array.toList_append]
 refine⟨rfl,rfl,BG.H4 (by simp[hl]) fun i u y hu hy=>?_⟩
 have hy:(ccs.toArray.zipIdx.map fun p:CommCase×Nat=>if (p.2:Int)=((j:Nat):Int)then x else p.1.zero).toList[i]? =some y:=hy
 rw[Pe]at hy
 cases hc:ccs[i]? with
 |none=>rw[hc]at hy;cases hy
 |some c=>
  rw[hc]at hy
  have hy':(if (i:Int)=(j:Int)then x else c.zero)=y:=Option.some.inj hy
  rw[List.getElem?_set]at hu
  by_cases hij:j=i
  ·subst hij
   rw[if_pos rfl]at hu hy'
   split at hu
   ·cases hu;rw[<-hy'];exact hv
   ·cases hu
  ·rw[if_neg hij]at hu
   rw[if_neg (by omega)]at hy'
   rw[<-hy'];exact hz i u c hu hc
theorem Ki {P:Program} (ev:Operand->Value):∀ {cs:List SelectCase} {os:List O} {zs:List V},E7 P cs=some (os,zs)->∃ ccs:List CommCase,(∀ w,(cs.mapM fun s=>(do pure {chan:=ev s.chan,send:=s.send.map ev,zero:=<-zeroValue s.elem:CommCase}:Sem CommCase)).run P w=.ok ccs w)/\
 os=cs.map (fun s=>AI s.chan)/\ccs.length=cs.length/\zs.length=cs.length/\(∀ s∈cs,s.send=none)/\∀ (m:Nat) s c,cs[m]? =some s->ccs[m]? =some c->c.send=none/\c.chan=ev s.chan/\∀ ρ z,zs[m]? =some z->At ρ z c.zero
 |[],os,zs,h=>by cases h;exact⟨[],fun w=>rfl,rfl,rfl,rfl,fun s hs=>(by cases hs),fun m s c hs=>(by simp at hs)⟩
 |⟨c,some x,e⟩::r,os,zs,h=>by cases h
 |⟨c,none,e⟩::r,os,zs,h=>by
  have h':(match zeroV P e,E7 P r with|some z,some (os,zs)=>some (AI c::os,z::zs)|_,_=>none)=some (os,zs):=h
  cases hz:zeroV P e with
  |none=>rw[hz]at h';cases h'
  |some z=>
   cases hr:E7 P r with
   |none=>rw[hz,hr]at h';cases h'
   |some p=>
    obtain⟨os',zs'⟩:=p
    rw[hz,hr]at h'
    cases h'
    obtain⟨ccs,a1,a2,a3,a4,a5,a6⟩:=Ki ev hr
    obtain⟨zv,z1,_⟩:=G9 hz (fun _ _=>none)
    refine⟨{chan:=ev c,send:=none,zero:=zv}::ccs,fun w=>?_,by rw[a2];rfl,by simp[a3],by simp[a4],fun s hs=>?_,fun m s cc hs hcc=>?_⟩
    ·rw[List.mapM_cons]
     simp only[Sem.run_bind,z1,Result.andThen_ok,Sem.run_pure',a1,Option.map_none]
     try rfl
    ·cases hs with
     |head=>rfl
     |tail _ hs=>exact a5 s hs
    ·cases m with
     |zero=>
      simp at hs hcc
      subst hs;subst hcc
      refine⟨rfl,rfl,fun ρ z' hz'=>?_⟩
      simp at hz'
      subst hz'
      obtain⟨zv',y1,y2⟩:=G9 hz ρ
      have:zv'=zv:=by
       have:=(y1 default).symm.trans (z1 default)
       cases this;rfl
      rw[<-this];exact y2
     |succ m=>exact a6 m s cc (by simpa using hs) (by simpa using hcc)
theorem Q8 (P:Program) (o:Oper) (cs:Array SelectCase) (bl:Bool) (h:o.op=.select cs bl):SE P o (Vc (M1 P cs.toList)):=by
 unfold M1
 cases hc:E7 P cs.toList with
 |none=>exact KP P o
 |some p=>
 obtain⟨os,zs⟩:=p
 intro fr hp k hk
 obtain⟨_,_,b2,_⟩:=Ki (P:=P) (fun _=>default) hc
 have e:∀ k',Vc ⟨Gz os zs⟩ fr hp k'=(Ap (Nat.beq (cs.toList.map fun s=>oV (AI s.chan) fr).length zs.length) fun _=>SX (cs.toList.map fun s=>oV (AI s.chan) fr) hp fun ss=>B9 (La ss) fun j=>B9 ss[j]? fun s=>YE (cs.toList.map fun s=>oV (AI s.chan) fr) zs hp k' j s):=by
  intro k'
  show Gz os zs fr hp k'=_
  unfold Gz
  rw[b2,show(cs.toList.map fun s=>AI s.chan)=(cs.toList.map (·.chan)).map AI by rw[List.map_map];rfl,D9,List.map_map]
  rfl
 generalize hvs:(cs.toList.map fun s=>oV (AI s.chan) fr)=vs at e
 have hk:Vc ⟨Gz os zs⟩ fr hp k=true:=hk
 rw[e]at hk
 obtain⟨hlen,hk⟩:=AT hk
 obtain⟨ss,a1,a2,a3⟩:=Xi (Nat.eq_of_beq_eq_true hlen) hk
 rw[a1]at hk
 obtain⟨j,hj,hk⟩:=Bb hk
 obtain⟨s,hs,hk⟩:=Bb hk
 obtain⟨s0,p1,p2⟩:=OK hj
 rw[hs]at p1
 cases p1
 have hjl:j<vs.length:=by rw[<-a2];exact(List.getElem?_eq_some_iff.1 hs).1
 have hzl:vs.length=zs.length:=Nat.eq_of_beq_eq_true hlen
 obtain⟨v,hv⟩:∃ v,vs[j]? =some v:=⟨_,List.getElem?_eq_getElem hjl⟩
 obtain⟨z,hz⟩:∃ z,zs[j]? =some z:=⟨_,List.getElem?_eq_getElem (by omega)⟩
 --what is known of the cases in the model
 have world:∀ ρ a w w0,El ρ fr a o.op.operands.toList->Aw ρ hp w w0->∃ ccs:List CommCase,(execOp a.eval o).run P w=.ok (.comm ccs.toArray bl .select) w/\ccs.length=zs.length/\(∀ c∈ccs,c.send=none)/\(∀ (m:Nat) z c,zs[m]? =some z->ccs[m]? =some c->At ρ z c.zero)/\
  ∀ (m:Nat) v z c s,vs[m]? =some v->zs[m]? =some z->ccs[m]? =some c->ss[m]? =some s->QQ ρ hp w v z s c:=by
  intro ρ a w w0 A R
  obtain⟨ccs,c1,c2,c3,c4,c5,c6⟩:=Ki (P:=P) a.eval hc
  have hsend:∀ c∈ccs,c.send=none:=fun c hcm=>by
   obtain⟨m,hm⟩:=List.mem_iff_getElem?.1 hcm
   have hml:m<cs.toList.length:=by rw[<-c3];exact(List.getElem?_eq_some_iff.1 hm).1
   exact(c6 m _ c (List.getElem?_eq_getElem hml) hm).1
  have hzz:∀ (m:Nat) z c,zs[m]? =some z->ccs[m]? =some c->At ρ z c.zero:=fun m z c h1 h2=>by
   have hml:m<cs.toList.length:=by rw[<-c3];exact(List.getElem?_eq_some_iff.1 h2).1
   exact(c6 m _ c (List.getElem?_eq_getElem hml) h2).2.2 ρ z h1
  refine⟨ccs,?_,by rw[c3,c4],hsend,hzz,?_⟩
  ·unfold execOp
   rw[h]
   simp only
   rw[Array.mapM_eq_mapM_toList]
   simp only[Sem.run_bind,Sem.run_map,c1,Result.andThen_ok]
   rfl
  ·refine a3 ρ w w0 ccs R (by rw[c3,<-hvs];simp) fun m v z c h1 h2 h3=>?_
   have hml:m<cs.toList.length:=by rw[<-c3];exact(List.getElem?_eq_some_iff.1 h3).1
   obtain⟨d1,d2,d3⟩:=c6 m _ c (List.getElem?_eq_getElem hml) h3
   refine⟨d1,?_,d3 ρ z h2⟩
   rw[d2]
   rw[<-hvs,List.getElem?_map,List.getElem?_eq_getElem hml]at h1
   simp at h1
   rw[<-h1]
   refine A _ ?_
   rw[h]
   simp only[Op.operands,Array.toList_flatMap,List.mem_flatMap]
   exact⟨_,List.getElem_mem hml,by simp⟩
 cases s with
 |no=>exact Bool.noConfusion hk
 |shut=>
  refine⟨JK zs j z false,hp,fun k'=>by rw[e,hlen,AF,a1,hj,Ad,hs,Ad];show B9 zs[j]? _=_;rw[hz];rfl,Ak.refl _,Nat.le_refl _,fun ρ a w w0 A R=>?_⟩
  obtain⟨ccs,w1,w2,w3,w4,w5⟩:=world ρ a w w0 A R
  obtain⟨c,hcc⟩:∃ c,ccs[j]? =some c:=⟨_,List.getElem?_eq_getElem (by omega)⟩
  obtain⟨g1,L,cap,s',r,g2,g3⟩:=w5 j v z c .shut hv hz hcc hs
  refine⟨_,_,_,w1,fun f cs' es hst=>⟨_,_,step_lone_sel_recv_shut hst (k:=j) (by rw[g2]at hcc;simpa using hcc) (fun m c' hm hc'=>?_) g3,ρ,Ext.refl _ ρ,Kk w2 w4 w3 g1 false,R⟩⟩
  have hc'':ccs[m]? =some c':=by simpa using hc'
  have hml:m<vs.length:=by rw[hzl,<-w2];exact(List.getElem?_eq_some_iff.1 hc'').1
  have hsm:ss[m]? =some ss[m]:=List.getElem?_eq_getElem (by omega)
  have:=w5 m _ _ c' _ (List.getElem?_eq_getElem hml) (List.getElem?_eq_getElem (by omega)) hc'' hsm
  rw[p2 m _ hm hsm]at this
  exact this.2
 |hd u us=>
  have hk':(B9 vs[j]? fun c=>KZ hp c us fun h=>k (JK zs j u true) h)=true:=hk
  rw[hv,Ad]at hk'
  have hk0:=hk'
  unfold KZ at hk0
  rcases Nl hk0 with⟨_,hk1⟩|⟨id,hvc,hk1⟩
  ·exact Bool.noConfusion hk1
  subst hvc
  obtain⟨next,floor,heap,cur,min,size,cells,n,frz,ws,rfl,hb,hm,hp',hK⟩:=JQ hk1
  subst hm
  obtain⟨h',q1,q2,q3,q4⟩:=Qc (u:=u) hb hk'
  refine⟨JK zs j u true,h',fun k'=>by rw[e,hlen,AF,a1,hj,Ad,hs,Ad];show B9 vs[j]? _=_;rw[hv,Ad,q1],q2,by rw[q3];exact Nat.le_refl _,fun ρ a w w0 A R=>?_⟩
  obtain⟨ccs,w1,w2,w3,w4,w5⟩:=world ρ a w w0 A R
  obtain⟨c,hcc⟩:∃ c,ccs[j]? =some c:=⟨_,List.getElem?_eq_getElem (by omega)⟩
  obtain⟨g1,id',L,cur',size',cells',n',fr',buf,s',r,f1,f2,f3,f4,f5,f6,f7⟩:=w5 j _ z c (.hd u us) hv hz hcc hs
  cases f1
  have hbb:heap.get id=some ⟨cur,cur+11,size,cells,n,frz⟩:=hb
  have f2':heap.get id=some ⟨cur',cur'+11,size',cells',n',fr'⟩:=f2
  rw[hbb]at f2'
  cases f2'
  have R':=q4 ρ w w0 L buf s' r R f4 f6 f7
  have hpos:0<buf.size:=by
   have:=f7.length
   simp at this
   omega
  have hu:At ρ u (buf.getD 0 undef):=by
   obtain⟨y,y1,y2⟩:=f7.get (i:=0) (v:=u) rfl
   have:buf.getD 0 undef=y:=by
    rw[Array.getD_eq_getD_getElem?]
    have:buf[0]? =some y:=by simpa using y1
    rw[this];rfl
   rw[this];exact y2
  refine⟨_,_,_,w1,fun f cs' es hst=>⟨_,_,step_lone_sel_recv_buf hst (k:=j) (by rw[f5]at hcc;simpa using hcc) (fun m c' hm hc'=>?_) f6 hpos,ρ,Ext.refl _ ρ,Kk w2 w4 w3 hu true,R'⟩⟩
  have hc'':ccs[m]? =some c':=by simpa using hc'
  have hml:m<vs.length:=by rw[hzl,<-w2];exact(List.getElem?_eq_some_iff.1 hc'').1
  have hsm:ss[m]? =some ss[m]:=List.getElem?_eq_getElem (by omega)
  have:=w5 m _ _ c' _ (List.getElem?_eq_getElem hml) (List.getElem?_eq_getElem (by omega)) hc'' hsm
  rw[p2 m _ hm hsm]at this
  exact this.2
theorem XV (P:Program) (o:Oper) (t:TypeId) (x:Operand) (ok:Bool) (h:o.op=.recv t x ok):SE P o (Vc (Kh P (Ar P t) (AI x) ok)):=by
 unfold Kh
 cases ht:Ar P t with
 |none=>exact KP P o
 |some ty=>
 obtain⟨s1,s2,d,s4⟩:=ty
 obtain⟨i,i1,i2,i3,i4,i5⟩:=Aj ht
 cases d<;>try exact KP P o
 rename_i dir e
 cases hz:zeroV P e with
 |none=>simp only[hz];exact KP P o
 |some z=>
 simp only[hz]
 intro fr hp k hk
 have e0:∀ k',Vc ⟨MK (AI x) z ok⟩ fr hp k'=X6 hp (oV (AI x) fr) fun s=>match s with|.no=>false|.shut=>k' (Fi ok z false) hp|.hd v r=>KZ hp (oV (AI x) fr) r fun h=>k' (Fi ok v true) h:=by
  intro k'
  show MK (AI x) z ok fr hp k'=_
  unfold MK
  rw[AN]
  congr 1
 rw[e0]at hk
 obtain⟨s,a1,a2⟩:=T7 (z:=z) hk
 rw[a1]at hk
 have world:∀ ρ a w w0,El ρ fr a o.op.operands.toList->Aw ρ hp w w0->∃ zv,(execOp a.eval o).run P w=.ok (.comm #[{chan:=a.eval x,send:=none,zero:=zv}] true (.recv ok)) w/\QQ ρ hp w (oV (AI x) fr) z s {chan:=a.eval x,send:=none,zero:=zv}:=by
  intro ρ a w w0 A R
  obtain⟨zv,z1,z2⟩:=G9 hz ρ
  refine⟨zv,?_,a2 ρ w w0 _ zv R (A x (by rw[h];simp[Op.operands])) z2⟩
  unfold execOp
  rw[h]
  simp only[Sem.run_bind,run_underlying i5,Result.andThen_ok,z1,Sem.run_pure']
 have out:∀ ρ v y b,At ρ v y->At ρ (Fi ok v b) (got ok y b):=fun ρ v y b hv=>by
  cases ok with
  |false=>exact hv
  |true=>exact⟨_,rfl,hv,rfl,trivial⟩
 cases s with
 |no=>exact Bool.noConfusion hk
 |shut=>
  refine⟨Fi ok z false,hp,fun k'=>by rw[e0,a1],Ak.refl _,Nat.le_refl _,fun ρ a w w0 A R=>?_⟩
  obtain⟨zv,w1,g1,L,cap,s',r,g2,g3⟩:=world ρ a w w0 A R
  exact⟨_,_,_,w1,fun f cs' es hst=>⟨_,_,step_lone_recv_shut ok (by rw[g2]at hst;exact hst) g3,ρ,Ext.refl _ ρ,out _ _ _ _ g1,R⟩⟩
 |hd u us=>
  have hk':(KZ hp (oV (AI x) fr) us fun h=>k (Fi ok u true) h)=true:=hk
  have hk0:=hk'
  unfold KZ at hk0
  rcases Nl hk0 with⟨_,hk1⟩|⟨id,hvc,hk1⟩
  ·exact Bool.noConfusion hk1
  rw[hvc]at hk'
  obtain⟨next,floor,heap,cur,min,size,cells,n,frz,ws,rfl,hb,hm,hp',hK⟩:=JQ hk1
  subst hm
  obtain⟨h',q1,q2,q3,q4⟩:=Qc (u:=u) hb hk'
  refine⟨Fi ok u true,h',fun k'=>by rw[e0,a1,hvc];show KZ _ _ _ _=_;rw[q1],q2,by rw[q3];exact Nat.le_refl _,fun ρ a w w0 A R=>?_⟩
  obtain⟨zv,w1,g1,id',L,cur',size',cells',n',fr',buf,s',r,f1,f2,f3,f4,f5,f6,f7⟩:=world ρ a w w0 A R
  rw[hvc]at f1
  cases f1
  have f2':heap.get id=some ⟨cur',cur'+11,size',cells',n',fr'⟩:=f2
  rw[hb]at f2'
  cases f2'
  have R':=q4 ρ w w0 L buf s' r R f4 f6 f7
  have hpos:0<buf.size:=by
   have:=f7.length
   simp at this
   omega
  have hu:At ρ u (buf.getD 0 undef):=by
   obtain⟨y,y1,y2⟩:=f7.get (i:=0) (v:=u) rfl
   have:buf.getD 0 undef=y:=by
    rw[Array.getD_eq_getD_getElem?]
    have:buf[0]? =some y:=by simpa using y1
    rw[this];rfl
   rw[this];exact y2
  exact⟨_,_,_,w1,fun f cs' es hst=>⟨_,_,step_lone_recv_buf ok (by rw[f5]at hst;exact hst) f6 hpos,ρ,Ext.refl _ ρ,out _ _ _ _ hu,R'⟩⟩
theorem Ri (P:Program) (o:Oper):SE P o (Vc (JO P o.op)):=by
 cases h:o.op with
 |send x y=>exact XD P o x y h
 |recv t x ok=>exact XV P o t x ok h
 |select cs bl=>exact Q8 P o cs bl h
 |_=>exact KP P o
end Go.Ev
namespace Go.Ev
open Go
theorem LC {P:Program} {t t' ty elem e':TypeId} {i:TypeInfo} (hu:P.underlying t=some (.slice elem)) (hu':P.underlying t'=some (.slice e')\/P.underlying t'=some .string) (hi:P.info? elem=some i)
 (hz:(zeroOf i.zero).length=i.size) (hs1:1<=i.size) (hby:i.bytes<=65536) {s x:V} {n:Nat} {vs:List V} {h:H} {k:V->H->Bool} (hk:Cc elem i.size s n vs h k=true)
 (hlen:vs.length=n*i.size)
 (hx:∀ ρ xv,At ρ x xv->(∀ (P:Program) w,(Builtin.lenOf xv).run P w=.ok n w)/\∀ w w0,Aw ρ h w w0->∃ new:Array Value,BG ρ vs new.toList/\∀ (P:Program),(Builtin.firstCells i.size n xv).run P w=.ok new w):
 ∃ v h',(∀ k',Cc elem i.size s n vs h k'=k' v h')/\Ak h h'/\B.val h.next<=B.val h'.next/\HL P t t' ty elem s x h v h':=by
 rcases Eh hk with⟨hv,hk⟩|⟨id,g,off,len,fin,cap,hv,hk⟩
 ·subst hv
  obtain⟨v,h',g1,g2,g3,g4⟩:=SU hu hu' hi hz hs1 hby hk hlen hx
  exact⟨v,h',fun k'=>by simp only[Cc,Hp,g1],g2,g3,g4⟩
 ·subst hv
  cases cap with
  |none=>
   have hk':Cg (Nat.ble 1 len) elem id g off len fin i.size n vs h k=true:=hk
   obtain⟨v,h',g1,g2,g3,g4⟩:=K9 hu hu' hi hz hs1 hby (cap:=none) (.inl rfl) (fun hz h0=>by have:=Nat.le_of_ble_eq_true hz;omega) hk' hlen hx
   exact⟨v,h',fun k'=>by simp only[Cc,DQ,g1],g2,g3,g4⟩
  |some c=>
   cases hfc:BY c with
   |true=>
    have e:∀ k',Cc elem i.size (.l id g off len fin (some c)) n vs h k'=A5 (BY c) (fun _=>Cg (Wy (Nat.ble 1 len) (Nat.beq c (Nat.add 18446744073709551615 i.size))) elem id g off len fin i.size n vs h k') (fun _=>A5 (Nat.ble (Nat.add len n) c) (fun _=>Gn id g off len fin c i.size n vs h k') (fun _=>EK elem id g off len fin i.size n vs h k')):=fun _=>rfl
    rw[e,hfc,Df]at hk
    obtain⟨v,h',g1,g2,g3,g4⟩:=K9 hu hu' hi hz hs1 hby (cap:=some c) (.inr ⟨c,rfl,HT hfc⟩) (fun hz h0=>by subst h0;exact congrArg some (Nat.eq_of_beq_eq_true hz)) hk hlen hx
    exact⟨v,h',fun k'=>by rw[e,hfc,Df,g1],g2,g3,g4⟩
   |false=>
   have hcM:=Hi hfc
   have e:∀ k',Cc elem i.size (.l id g off len fin (some c)) n vs h k'=A5 (Nat.ble (Nat.add len n) c) (fun _=>Gn id g off len fin c i.size n vs h k') (fun _=>EK elem id g off len fin i.size n vs h k'):=fun k'=>by
    show A5 (BY c) _ _=_
    rw[hfc,BL]
   have hk':A5 (Nat.ble (Nat.add len n) c) (fun _=>Gn id g off len fin c i.size n vs h k) (fun _=>EK elem id g off len fin i.size n vs h k)=true:=by rw[e]at hk;exact hk
   rcases Uu hk' with⟨hb,hk⟩|⟨hb,hk⟩
   ·obtain⟨v,h',g1,g2,g3,g4⟩:=UY hu hu' hi hz hs1 hby hcM hk (Nat.le_of_ble_eq_true hb) hlen hx
    exact⟨v,h',fun k'=>by rw[e,hb,Df,g1],g2,g3,g4⟩
   ·have hc:¬len+n<=c:=fun h=>by
     have:Nat.ble (Nat.add len n) c=true:=Nat.ble_eq_true_of_le h
     rw[hb]at this;cases this
    obtain⟨v,h',g1,g2,g3,g4⟩:=Qr hu hu' hi hz hs1 hby hcM hk hc hlen hx
    exact⟨v,h',fun k'=>by rw[e,hb,BL,g1],g2,g3,g4⟩
theorem On (P:Program) (o:Oper) (t t' e:TypeId) (x y:Operand) (args:Array Operand) (tys:Array TypeId) (ha:args.toList=[x,y]) (ht:tys.toList=[t,t'])
 (hu:P.underlying t=some (.slice e)) (hu':P.underlying t'=some .string)
 (h:o.op=.call ⟨.builtin .append,args,tys⟩):Ab P o (runK (Kr e (Ar P e) (AI x) (AI y))):=by
 cases h3:Ar P e with
 |none=>exact Ae P o
 |some et=>
  obtain⟨l,l1,l2,l3,l4,l5⟩:=Aj h3
  unfold Kr
  split
  ·rename_i bytes z heq
   cases heq
   simp only at l2 l3 l4
   split
   ·rename_i hc
    simp only[Bool.and_eq_true]at hc
    have c1:1<=l.size:=by omega
    have c2:l.bytes<=65536:=by rw[l3];exact Nat.le_of_ble_eq_true hc.1
    have c3:(zeroOf l.zero).length=l.size:=by rw[l4,l2];exact Nat.eq_of_beq_eq_true hc.2
    intro cf _ fr hp k hk
    simp only[Ag,E4,Au,AN]at hk
    obtain⟨n,vs,n1,n2,n3⟩:=IK hk
    rw[n1]at hk
    have n3':∀ ρ xv,At ρ (oV (AI y) fr) xv->(∀ (P:Program) w,(Builtin.lenOf xv).run P w=.ok n w)/\∀ w w0,Aw ρ hp w w0->∃ new:Array Value,BG ρ vs new.toList/\∀ (P:Program),(Builtin.firstCells l.size n xv).run P w=.ok new w:=by
     intro ρ xv hx
     obtain⟨q1,new,q2,q3⟩:=n3 ρ xv hx
     exact⟨q1,fun w w0 _=>⟨new,q2,fun P=>by rw[l2];exact q3 P w⟩⟩
    rw[<-l2]at hk n2
    obtain⟨v,h',g1,g2,g3,g4⟩:=LC (e':=e) (ty:=o.type) hu (.inr hu') l1 c3 c1 c2 hk n2 n3'
    refine⟨v,h',fun k'=>by simp only[Ag,E4,Au,AN,n1];rw[<-l2,g1],g2,g3,fun ρ a w w0 A R=>?_,fun hs=>by rw[h]at hs;exact Bool.noConfusion hs⟩
    obtain⟨z,w',z1,z2⟩:=g4 ρ w w0 _ _ R (A x (by rw[h];simp[Op.operands,Call.operands,<-Array.mem_toList_iff,ha])) (A y (by rw[h];simp[Op.operands,Call.operands,<-Array.mem_toList_iff,ha]))
    refine⟨.value z,w',?_,z2⟩
    rw[BQ P w a o .append args tys h]
    have ea:args.map a.eval=#[a.eval x,a.eval y]:=by apply Array.ext';simp[ha]
    have et:tys=#[t,t']:=by apply Array.ext';simp[ht]
    rw[ea,et]
    simp only[builtin,Sem.run_bind,z1,Result.andThen_ok]
    rfl
   ·exact Ae P o
  ·exact Ae P o
theorem Ru (P:Program) (o:Oper) (t t':TypeId) (x y:Operand) (args:Array Operand) (tys:Array TypeId) (ha:args.toList=[x,y]) (ht:tys.toList=[t,t'])
 (h:o.op=.call ⟨.builtin .append,args,tys⟩):Ab P o (runK (EE P t t' (AI x) (AI y))):=by
 cases h1:Ar P t with
 |none=>simp only[EE,h1];exact Ae P o
 |some ty=>
  cases h2:Ar P t' with
  |none=>simp only[EE,h1,h2];exact Ae P o
  |some ty'=>
   obtain⟨s1,s2,d,s4⟩:=ty
   obtain⟨r1,r2,d',r4⟩:=ty'
   obtain⟨i,i1,i2,i3,i4,i5⟩:=Aj h1
   obtain⟨j,j1,j2,j3,j4,j5⟩:=Aj h2
   cases d<;>simp only[EE,h1,h2]<;>try exact Ae P o
   rename_i e
   cases d'<;>simp only[EE,h1,h2]<;>try exact Ae P o
   ·exact On P o t t' e x y args tys ha ht i5 j5 h
   rename_i e'
   cases h3:Ar P e with
   |none=>exact Ae P o
   |some et=>
    obtain⟨esz,eb,ed,ez⟩:=et
    obtain⟨l,l1,l2,l3,l4,l5⟩:=Aj h3
    simp only at l2 l3 l4
    cases hc:(Nat.ble 1 esz&&(Nat.ble eb 65536&&Nat.beq ez.length esz))with
    |false=>simp only[hc];exact Ae P o
    |true=>
     simp only[hc,Ag]
     simp only[Bool.and_eq_true]at hc
     have c1:1<=l.size:=by rw[l2];exact Nat.le_of_ble_eq_true hc.1
     have c2:l.bytes<=65536:=by rw[l3];exact Nat.le_of_ble_eq_true hc.2.1
     have c3:(zeroOf l.zero).length=l.size:=by rw[l4,l2];exact Nat.eq_of_beq_eq_true hc.2.2
     rw[<-l2]
     intro cf _ fr hp k hk
     simp only[CE,Au,AN]at hk
     obtain⟨n,vs,n1,n2,n3⟩:=OY hk
     rw[n1]at hk
     obtain⟨v,h',g1,g2,g3,g4⟩:=LC (e':=e') (ty:=o.type) i5 (.inl j5) l1 c3 c1 c2 hk n2 n3
     refine⟨v,h',fun k'=>by simp only[CE,Au,AN,n1,g1],g2,g3,fun ρ a w w0 A R=>?_,fun hs=>by rw[h]at hs;exact Bool.noConfusion hs⟩
     obtain⟨z,w',z1,z2⟩:=g4 ρ w w0 _ _ R (A x (by rw[h];simp[Op.operands,Call.operands,<-Array.mem_toList_iff,ha])) (A y (by rw[h];simp[Op.operands,Call.operands,<-Array.mem_toList_iff,ha]))
     refine⟨.value z,w',?_,z2⟩
     rw[BQ P w a o .append args tys h]
     have ea:args.map a.eval=#[a.eval x,a.eval y]:=by apply Array.ext';simp[ha]
     have et:tys=#[t,t']:=by apply Array.ext';simp[ht]
     rw[ea,et]
     simp only[builtin,Sem.run_bind,z1,Result.andThen_ok]
     rfl
theorem F5 {P:Program} {w:World} {t t' ty e:TypeId} {i:TypeInfo} {base:Option Addr} {len c n:Nat} {x:Value} {cells:Array Value} {w':World}
 (hu:P.underlying t=some (.slice e)) (hi:P.info? e=some i) (hl:(Builtin.lenOf x).run P w=.ok n w) (hc:(Builtin.firstCells i.size (Nat.min n len) x).run P w=.ok cells w)
 (hst:∀ a,base=some a->(storeCells a cells.toList).run P w=.ok () w') (hno:base=none->w'=w):
 (Builtin.copy_ #[t,t'] ty #[.slice base len c,x]).run P w=.ok (.int .i64 (Int.ofNat (Nat.min n len))) w':=by
 unfold Builtin.copy_
 simp only[List.getElem?_toArray,List.getElem?_cons_zero,List.getElem?_cons_succ,Sem.run_bind,run_underlying hu,Result.andThen_ok,Ax hi,hl,hc]
 cases base with
 |none=>rw[hno rfl];rfl
 |some a=>simp only[Sem.run_bind,hst a rfl,Result.andThen_ok];rfl
theorem Wp (P:Program) (o:Oper) (t t':TypeId) (x y:Operand) (args:Array Operand) (tys:Array TypeId) (ha:args.toList=[x,y]) (ht:tys.toList=[t,t'])
 (h:o.op=.call ⟨.builtin .copy,args,tys⟩):Ab P o (runK (IQ P t (AI x) (AI y))):=by
 have ea:∀ a:Act,args.map a.eval=#[a.eval x,a.eval y]:=fun a=>by apply Array.ext';simp[ha]
 have et:tys=#[t,t']:=by apply Array.ext';simp[ht]
 have mx:x∈o.op.operands.toList:=by rw[h];simp[Op.operands,Call.operands,<-Array.mem_toList_iff,ha]
 have my:y∈o.op.operands.toList:=by rw[h];simp[Op.operands,Call.operands,<-Array.mem_toList_iff,ha]
 cases h1:Ar P t with
 |none=>simp only[IQ,h1];exact Ae P o
 |some ty=>
  obtain⟨s1,s2,d,s4⟩:=ty
  obtain⟨i,i1,i2,i3,i4,i5⟩:=Aj h1
  cases d<;>simp only[IQ,h1]<;>try exact Ae P o
  rename_i e
  cases h2:Ar P e with
  |none=>exact Ae P o
  |some ety=>
   obtain⟨esz,eb,ed,ez⟩:=ety
   obtain⟨j,j1,j2,j3,j4,j5⟩:=Aj h2
   simp only at j2
   subst j2
   simp only[Ag]
   intro cf _ fr hp k hk
   have done:∀ (v:V) (h':H),(∀ k',E8 j.size (AI x) (AI y) cf fr hp k'=k' v h')->Ak hp h'->B.val hp.next<=B.val h'.next->
    (∀ ρ w w0 sv xv,Aw ρ hp w w0->At ρ (oV (AI x) fr) sv->At ρ (oV (AI y) fr) xv->∃ z w',(Builtin.copy_ #[t,t'] o.type #[sv,xv]).run P w=.ok z w'/\At ρ v z/\Aw ρ h' w' w0)->
    ∃ v h',(∀ k',E8 j.size (AI x) (AI y) cf fr hp k'=k' v h')/\Ak hp h'/\B.val hp.next<=B.val h'.next/\M8 P o fr hp v h'/\(still P o.op=true->h'=hp/\JY P o fr v):=by
    intro v h' g1 g2 g3 g4
    refine⟨v,h',g1,g2,g3,fun ρ a w w0 A R=>?_,fun hs=>by rw[h]at hs;exact Bool.noConfusion hs⟩
    obtain⟨z,w',z1,z2,z3⟩:=g4 ρ w w0 _ _ R (A x mx) (A y my)
    refine⟨.value z,w',?_,ρ,Ext.refl _ ρ,z2,z3⟩
    rw[BQ P w a o .copy args tys h,ea,et]
    simp only[builtin,Sem.run_bind,z1,Result.andThen_ok]
    rfl
   simp only[E8,Au]at hk
   rcases Eh hk with⟨hv,hk2⟩|⟨id,g,off,len,fin,cap,hv,hk2⟩
   ·rcases Eh hk2 with⟨hy,hk3⟩|⟨id',g',off',len',fin',cap',hy,hk3⟩
    ·refine done (.i .i64 (.ofNat 0)) hp (fun k'=>by simp only[E8,Au,hv,Hp,QP,hy]) (Ak.refl hp) (Nat.le_refl _) (fun ρ w w0 sv xv R hs hx=>?_)
     rw[hv]at hs
     rw[hy]at hx
     have hs':sv=.slice none 0 0:=hs
     have hx':xv=.slice none 0 0:=hx
     subst hs'
     subst hx'
     exact⟨_,w,F5 i5 j1 rfl rfl (fun a ha=>by cases ha) (fun _=>rfl),rfl,R⟩
    ·refine done (.i .i64 (.ofNat 0)) hp (fun k'=>by simp only[E8,Au,hv,Hp,QP,hy,DQ]) (Ak.refl hp) (Nat.le_refl _) (fun ρ w w0 sv xv R hs hx=>?_)
     rw[hv]at hs
     rw[hy]at hx
     have hs':sv=.slice none 0 0:=hs
     obtain⟨L,ad,c,l1,rfl,lc,l3,l4,l5,l6,l7⟩:=hx
     subst hs'
     have hm:Nat.min len' 0=0:=Nat.min_zero _
     refine⟨.int .i64 (Int.ofNat 0),w,?_,rfl,R⟩
     have:=F5 (t':=t') (ty:=o.type) (w':=w) (base:=none) (len:=0) (c:=0) (cells:=#[]) i5 j1 (show(Builtin.lenOf (.slice (some ad) len' c)).run P w=.ok len' w from rfl) (by rw[hm];unfold Builtin.firstCells;rw[Nat.zero_mul];rfl) (fun a ha=>by cases ha) (fun _=>rfl)
     rw[hm]at this
     exact this
   ·rcases Eh hk2 with⟨hy,hk3⟩|⟨id',g',off',len',fin',cap',hy,hk3⟩
    ·refine done (.i .i64 (.ofNat 0)) hp (fun k'=>by simp only[E8,Au,hv,DQ,Kt,hy,Hp]) (Ak.refl hp) (Nat.le_refl _) (fun ρ w w0 sv xv R hs hx=>?_)
     rw[hv]at hs
     rw[hy]at hx
     have hx':xv=.slice none 0 0:=hx
     obtain⟨L,ad,c,l1,rfl,lc,l3,l4,l5,l6,l7⟩:=hs
     subst hx'
     have hm:Nat.min 0 len=0:=Nat.zero_min _
     refine⟨.int .i64 (Int.ofNat 0),w,?_,rfl,R⟩
     have:=F5 (t':=t') (ty:=o.type) (w':=w) (base:=some ad) (len:=len) (c:=c) (cells:=#[]) i5 j1 (show(Builtin.lenOf (.slice none 0 0)).run P w=.ok 0 w from rfl) (by rw[hm];rfl) (fun a ha=>rfl) (fun _=>rfl)
     rw[hm]at this
     exact this
    ·rcases MW hk3 with⟨hm,hk4⟩|⟨m,hm,hk4⟩
     ·refine done (.i .i64 (.ofNat 0)) hp (fun k'=>by simp only[E8,Au,hv,DQ,Kt,hy,hm,Le]) (Ak.refl hp) (Nat.le_refl _) (fun ρ w w0 sv xv R hs hx=>?_)
      rw[hv]at hs
      rw[hy]at hx
      obtain⟨L,ad,c,l1,rfl,lc,l3,l4,l5,l6,l7⟩:=hs
      obtain⟨L',ad',c',m1,rfl,mc,m3,m4,m5,m6,m7⟩:=hx
      refine⟨.int .i64 (Int.ofNat 0),w,?_,rfl,R⟩
      have:=F5 (t':=t') (ty:=o.type) (w':=w) (base:=some ad) (len:=len) (c:=c) (cells:=#[]) i5 j1 (show(Builtin.lenOf (.slice (some ad') len' c')).run P w=.ok len' w from rfl) (by rw[hm];unfold Builtin.firstCells;rw[Nat.zero_mul];rfl) (fun a ha=>rfl) (fun _=>rfl)
      rw[hm]at this
      exact this
     ·obtain⟨vs,n1,n2,n3⟩:=EX hk4
      rw[n1]at hk4
      obtain⟨h',g1,g2,g3,g4⟩:=HA hk4
      have hml:Nat.min len' len<=len'/\Nat.min len' len<=len:=⟨Nat.min_le_left _ _,Nat.min_le_right _ _⟩
      refine done (.i .i64 (.ofNat (m+1))) h' (fun k'=>by simp only[E8,Au,hv,DQ,Kt,hy,hm,D6];rw[<-hm,n1,g1,hm]) g2 (by rw[g3];exact Nat.le_refl _) (fun ρ w w0 sv xv R hs hx=>?_)
      rw[hv]at hs
      rw[hy]at hx
      obtain⟨L,ad,c,l1,rfl,lc,l3,l4,l5,l6,l7⟩:=hs
      obtain⟨L',ad',c',m1,rfl,mc,m3,m4,m5,m6,m7⟩:=hx
      obtain⟨xs,x1,x2,x3⟩:=n3 ρ w w0 L' R m1 m3 m4
      have hadr:ad=⟨L.b,off-L.s,none⟩:=by
       rcases l5 with⟨h0,_⟩|h1
       ·omega
       ·exact h1
      have hadr':ad'=⟨L'.b,off'-L'.s,none⟩:=by
       rcases m5 with⟨h0,_⟩|h1
       ·omega
       ·exact h1
      subst hadr
      subst hadr'
      obtain⟨s1,s2⟩:=g4 ρ w w0 L xs R l1 l3 l4 x1
      refine⟨.int .i64 (Int.ofNat (m+1)),_,?_,rfl,s2⟩
      have:=F5 (t':=t') (ty:=o.type) (base:=some ⟨L.b,off-L.s,none⟩) (len:=len) (c:=c) (cells:=xs.toArray) i5 j1 (show(Builtin.lenOf (.slice (some ⟨L'.b,off'-L'.s,none⟩) len' c')).run P w=.ok len' w from rfl) (by unfold Builtin.firstCells;exact x2 P) (fun a ha=>by cases ha;exact s1 P) (fun hn=>by cases hn)
      rw[hm]at this
      exact this
theorem I5 {P:Program} {w:World} {t ty e:TypeId} {v:Value} {base:Option Addr} {n c:Nat} {w':World}
 (hu:P.underlying t=some (.slice e)) (hz:∀ w,(zeroValue e).run P w=.ok v w)
 (h0:base=none\/n=0->w'=w) (hst:∀ a,base=some a->n≠0->(storeCells a (Builtin.zeroCells v.cells n).toList).run P w=.ok () w'):
 (Builtin.clear_ #[t] ty #[.slice base n c]).run P w=.ok (.tuple #[]) w':=by
 unfold Builtin.clear_
 simp only[List.getElem?_toArray,List.getElem?_cons_zero,List.getElem?_cons_succ,Sem.run_bind,run_underlying hu,Result.andThen_ok]
 cases base with
 |none=>rw[h0 (.inl rfl)];rfl
 |some a=>
  cases n with
  |zero=>rw[h0 (.inr rfl)];rfl
  |succ m=>
   simp only[Sem.run_bind,hz,Result.andThen_ok,hst a rfl (Nat.succ_ne_zero m)];rfl
theorem TE (P:Program) (o:Oper) (t:TypeId) (x:Operand) (args:Array Operand) (tys:Array TypeId) (ha:args.toList=[x]) (ht:tys.toList=[t])
 (h:o.op=.call ⟨.builtin .clear,args,tys⟩):Ab P o (runK (Hc P t (AI x))):=by
 have ea:∀ a:Act,args.map a.eval=#[a.eval x]:=fun a=>by apply Array.ext';simp[ha]
 have et:tys=#[t]:=by apply Array.ext';simp[ht]
 have mx:x∈o.op.operands.toList:=by rw[h];simp[Op.operands,Call.operands,<-Array.mem_toList_iff,ha]
 cases h1:Ar P t with
 |none=>simp only[Hc,h1];exact Ae P o
 |some ty=>
  obtain⟨s1,s2,d,s4⟩:=ty
  obtain⟨i,i1,i2,i3,i4,i5⟩:=Aj h1
  cases d<;>simp only[Hc,h1]<;>try exact Ae P o
  rename_i e
  cases h2:Ar P e with
  |none=>exact Ae P o
  |some ety=>
   obtain⟨esz,eb,ed,ez⟩:=ety
   obtain⟨j,j1,j2,j3,j4,j5⟩:=Aj h2
   simp only at j2 j4
   cases hc:(Nat.beq ez.length esz&&Nat.ble 1 esz)with
   |false=>simp only[IF,hc];exact Ae P o
   |true=>
   simp only[IF,hc,Ag]
   simp only[Bool.and_eq_true]at hc
   have hz1:ez.length=esz:=Nat.eq_of_beq_eq_true hc.1
   have hz2:1<=esz:=Nat.le_of_ble_eq_true hc.2
   intro cf _ fr hp k hk
   have done:∀ (h':H),(∀ k',Gb ez (AI x) cf fr hp k'=k' (.tu []) h')->Ak hp h'->B.val hp.next<=B.val h'.next->
    (∀ ρ w w0 sv,Aw ρ hp w w0->At ρ (oV (AI x) fr) sv->∃ w',(Builtin.clear_ #[t] o.type #[sv]).run P w=.ok (.tuple #[]) w'/\Aw ρ h' w' w0)->
    ∃ v h',(∀ k',Gb ez (AI x) cf fr hp k'=k' v h')/\Ak hp h'/\B.val hp.next<=B.val h'.next/\M8 P o fr hp v h'/\(still P o.op=true->h'=hp/\JY P o fr v):=by
    intro h' g1 g2 g3 g4
    refine⟨.tu [],h',g1,g2,g3,fun ρ a w w0 A R=>?_,fun hs=>by rw[h]at hs;exact Bool.noConfusion hs⟩
    obtain⟨w',z1,z3⟩:=g4 ρ w w0 _ R (A x mx)
    refine⟨.value (.tuple #[]),w',?_,ρ,Ext.refl _ ρ,⟨#[],rfl,trivial⟩,z3⟩
    rw[BQ P w a o .clear args tys h,ea,et]
    simp only[builtin,Sem.run_bind,z1,Result.andThen_ok]
    rfl
   obtain⟨zv,zv1,_⟩:=De (ρ:=fun _ _=>none) (z:=j.zero) (by rw[j4];omega)
   simp only[Gb,Au]at hk
   rcases Eh hk with⟨hv,hk2⟩|⟨id,g,off,len,fin,cap,hv,hk2⟩
   ·refine done hp (fun k'=>by simp only[Gb,Au,hv,Hp]) (Ak.refl hp) (Nat.le_refl _) (fun ρ w w0 sv R hs=>?_)
    rw[hv]at hs
    have hs':sv=.slice none 0 0:=hs
    subst hs'
    exact⟨w,I5 i5 (Ch j1 zv1) (fun _=>rfl) (fun a ha=>by cases ha),R⟩
   ·rcases MW hk2 with⟨hm,hk3⟩|⟨m,hm,hk3⟩
    ·refine done hp (fun k'=>by simp only[Gb,Au,hv,DQ,hm,Le]) (Ak.refl hp) (Nat.le_refl _) (fun ρ w w0 sv R hs=>?_)
     rw[hv]at hs
     obtain⟨L,ad,c,l1,rfl,lc,l3,l4,l5,l6,l7⟩:=hs
     exact⟨w,I5 i5 (Ch j1 zv1) (fun _=>rfl) (fun a ha hn=>absurd hm hn),R⟩
    ·obtain⟨h',g1,g2,g3,g4⟩:=HA hk3
     refine done h' (fun k'=>by simp only[Gb,Au,hv,DQ,hm,D6];rw[<-hm,g1]) g2 (by rw[g3];exact Nat.le_refl _) (fun ρ w w0 sv R hs=>?_)
     rw[hv]at hs
     obtain⟨L,ad,c,l1,rfl,lc,l3,l4,l5,l6,l7⟩:=hs
     have hadr:ad=⟨L.b,off-L.s,none⟩:=by
      rcases l5 with⟨h0,_⟩|h1
      ·omega
      ·exact h1
     subst hadr
     obtain⟨v,v1,v2⟩:=De (ρ:=ρ) (z:=j.zero) (by rw[j4];omega)
     obtain rfl:zv=v:=by rw[v1]at zv1;exact(Option.some.inj zv1).symm
     rw[j4]at v2
     have hvs:zv.cells.size=ez.length:=by have:=v2.length;simp at this;omega
     have hr:BG ρ (GG ez len) (Builtin.zeroCells zv.cells len).toList:=by
      have:=M7 v2 (by omega) len
      unfold Builtin.zeroCells
      rw[hvs];rw[hvs]at this;exact this
     obtain⟨q1,q2⟩:=g4 ρ w w0 L _ R l1 l3 l4 hr
     exact⟨_,I5 i5 (Ch j1 v1) (fun hx=>by rcases hx with hx|hx;cases hx;omega) (fun a ha _=>by cases ha;exact q1 P),q2⟩
theorem Tm (P:Program) (o:Oper) (t t' e:TypeId) (x y:Operand) (args:Array Operand) (tys:Array TypeId) (ha:args.toList=[x,y]) (ht:tys.toList=[t,t'])
 (hu:P.underlying t=some (.slice e)) (h:o.op=.call ⟨.builtin .copy,args,tys⟩):Ab P o (runK (IA (Ar P e) (AI x) (AI y))):=by
 have ea:∀ a:Act,args.map a.eval=#[a.eval x,a.eval y]:=fun a=>by apply Array.ext';simp[ha]
 have et:tys=#[t,t']:=by apply Array.ext';simp[ht]
 have mx:x∈o.op.operands.toList:=by rw[h];simp[Op.operands,Call.operands,<-Array.mem_toList_iff,ha]
 have my:y∈o.op.operands.toList:=by rw[h];simp[Op.operands,Call.operands,<-Array.mem_toList_iff,ha]
 cases h2:Ar P e with
 |none=>exact Ae P o
 |some ety=>
  obtain⟨j,j1,j2,j3,j4,j5⟩:=Aj h2
  unfold IA
  split
  ·rename_i bytes z heq
   cases heq
   simp only at j2
   intro cf _ fr hp k hk
   simp only[Ag,Iy,Au]at hk
   rcases Eh hk with⟨hv,hk2⟩|⟨id,g,off,len,fin,cap,hv,hk2⟩
   ·cases hk2
   rcases MW hk2 with⟨hm,hk3⟩|⟨m,hm,hk3⟩
   ·cases hk3
   unfold HP at hk3
   obtain⟨n,vs,n1,n2,n3⟩:=IK hk3
   rw[n1]at hk3
   obtain⟨hb,hk4⟩:=AT hk3
   have hn:n=len:=Nat.eq_of_beq_eq_true hb
   obtain⟨h',g1,g2,g3,g4⟩:=HA hk4
   refine⟨.i .i64 (.ofNat n),h',fun k'=>?_,g2,by rw[g3];exact Nat.le_refl _,fun ρ a w w0 A R=>?_,fun hs=>by rw[h]at hs;exact Bool.noConfusion hs⟩
   ·simp only[Ag,Iy,Au,hv,DQ,hm,D6]
    unfold HP
    rw[n1,<-hm,hb,AF,g1]
   have hs:=A x mx
   have hx:=A y my
   rw[hv]at hs
   obtain⟨L,ad,c,l1,l2,lc,l3,l4,l5,l6,l7⟩:=hs
   obtain⟨q1,new,q2,q3⟩:=n3 ρ _ hx
   have hadr:ad=⟨L.b,off-L.s,none⟩:=by
    rcases l5 with⟨h0,_⟩|h1
    ·omega
    ·exact h1
   subst hadr
   obtain⟨s1,s2⟩:=g4 ρ w w0 L new.toList R l1 l3 l4 q2
   refine⟨.value (.int .i64 (Int.ofNat n)),_,?_,ρ,Ext.refl _ ρ,rfl,s2⟩
   rw[BQ P w a o .copy args tys h,ea,et,l2]
   have hmn:Nat.min n len=n:=by rw[hn];exact Nat.min_self _
   have:=F5 (P:=P) (t':=t') (ty:=o.type) (base:=some ⟨L.b,off-L.s,none⟩) (len:=len) (c:=c) (cells:=new) hu j1 (q1 P w) (by rw[hmn,j2];exact q3 P w) (fun a ha=>by cases ha;exact s1 P) (fun hn=>by cases hn)
   rw[hmn]at this
   simp only[builtin,Sem.run_bind,this,Result.andThen_ok]
   rfl
  ·exact Ae P o
theorem Sk (P:Program) (o:Oper) (t t':TypeId) (x y:Operand) (args:Array Operand) (tys:Array TypeId) (ha:args.toList=[x,y]) (ht:tys.toList=[t,t'])
 (h:o.op=.call ⟨.builtin .copy,args,tys⟩):Ab P o (runK (I6 P t t' (AI x) (AI y))):=by
 unfold I6
 split
 ·unfold Ls
  split
  ·rename_i hty
   obtain⟨i,i1,i2,i3,i4,i5⟩:=Aj hty
   exact Tm P o t t' _ x y args tys ha ht i5 h
  ·exact Ae P o
 ·exact Wp P o t t' x y args tys ha ht h
theorem cE (P:Program) (o:Oper) (t:TypeId) (x:Operand) (args:Array Operand) (tys:Array TypeId) (ha:args.toList=[x]) (ht:tys.toList=[t])
 (h:o.op=.call ⟨.builtin .len,args,tys⟩):Ab P o (runK (J5 P t (AI x))):=by
 have ea:∀ a:Act,args.map a.eval=#[a.eval x]:=fun a=>by apply Array.ext';simp[ha]
 have et:tys=#[t]:=by apply Array.ext';simp[ht]
 cases h1:Ar P t with
 |none=>simp only[J5,h1];exact Ae P o
 |some ty=>
  obtain⟨s1,s2,d,s4⟩:=ty
  obtain⟨i,i1,i2,i3,i4,i5⟩:=Aj h1
  cases d<;>simp only[J5,h1]<;>try exact Ae P o
  ·refine Ab.calm fun cf fr hp k hk=>?_
   simp only[Ag,BH,Au,AN]at hk
   obtain⟨len,n,hv,hk⟩:=ER hk
   refine⟨.i .i64 len,fun k'=>by simp only[Ag,BH,Au,AN,hv,Ii];rfl,fun ρ a A w=>?_⟩
   have hx:=(A x (by rw[h];simp[Op.operands,Call.operands,<-Array.mem_toList_iff,ha]))
   rw[hv]at hx
   obtain⟨bs,b1,b2,b3⟩:=hx
   refine⟨.int .i64 len,?_,rfl⟩
   rw[BQ P w a o .len args tys h,ea,et,b1]
   unfold builtin Builtin.len_
   simp only[List.getElem?_toArray,List.getElem?_cons_zero,Sem.run_bind,run_underlying i5,Result.andThen_ok,b2]
   rfl
  ·refine Ab.calm fun cf fr hp k hk=>?_
   simp only[Ag,CG,Au,AN]at hk
   rcases Eh hk with⟨hv,hk⟩|⟨id,g,off,len,fin,cap,hv,hk⟩
   ·refine⟨.i .i64 0,fun k'=>by simp only[Ag,CG,Au,AN,hv,Hp];rfl,fun ρ a A w=>?_⟩
    have hx:=(A x (by rw[h];simp[Op.operands,Call.operands,<-Array.mem_toList_iff,ha]))
    rw[hv]at hx
    have hx':a.eval x=.slice none 0 0:=hx
    refine⟨.int .i64 0,?_,rfl⟩
    rw[BQ P w a o .len args tys h,ea,et,hx']
    unfold builtin Builtin.len_
    simp only[List.getElem?_toArray,List.getElem?_cons_zero,Sem.run_bind,run_underlying i5,Result.andThen_ok]
    rfl
   ·refine⟨.i .i64 len,fun k'=>by simp only[Ag,CG,Au,AN,hv,DQ];rfl,fun ρ a A w=>?_⟩
    have hx:=(A x (by rw[h];simp[Op.operands,Call.operands,<-Array.mem_toList_iff,ha]))
    rw[hv]at hx
    obtain⟨L,ad,c,l1,hx',l3⟩:=hx
    refine⟨.int .i64 len,?_,rfl⟩
    rw[BQ P w a o .len args tys h,ea,et,hx']
    unfold builtin Builtin.len_
    simp only[List.getElem?_toArray,List.getElem?_cons_zero,Sem.run_bind,run_underlying i5,Result.andThen_ok]
    rfl
  ·exact RD P o t _ _ x args tys ha ht (by simp only[KF,h1]) i5 h
theorem eh (P:Program) (o:Oper) (x y:Operand) (args:Array Operand) (tys:Array TypeId) (ha:args.toList=[x,y])
 (h:o.op=.call ⟨.builtin .min,args,tys⟩):Ab P o (LI (AI x) (AI y)):=by
 have ea:∀ a:Act,args.map a.eval=#[a.eval x,a.eval y]:=fun a=>by apply Array.ext';simp[ha]
 refine Ab.calm fun cf fr hp k hk=>?_
 simp only[LI,Au,AN]at hk
 obtain⟨kd,m,hm,hk⟩:=Cq hk
 obtain⟨kd',n,hn,hk⟩:=Cq hk
 obtain⟨he,hk2⟩:=AT hk
 have hkd:=Dz he
 subst hkd
 refine⟨.i kd (if n<m then n else m),fun k'=>?_,fun ρ a A w=>?_⟩
 ·simp only[LI,Au,AN,hm,Ct,hn,he,AF,EZ]
  by_cases hlt:n<m<;>simp[hlt]
 ·have hx:=(A x (by rw[h];simp[Op.operands,Call.operands,<-Array.mem_toList_iff,ha]))
  rw[hm]at hx
  have hx':a.eval x=.int kd m:=hx
  have hy:=(A y (by rw[h];simp[Op.operands,Call.operands,<-Array.mem_toList_iff,ha]))
  rw[hn]at hy
  have hy':a.eval y=.int kd n:=hy
  refine⟨.int kd (if n<m then n else m),?_,rfl⟩
  rw[BQ P w a o .min args tys h,ea,hx',hy']
  rfl
theorem Yw (P:Program) (o:Oper) (x y:Operand) (args:Array Operand) (tys:Array TypeId) (ha:args.toList=[x,y])
 (h:o.op=.call ⟨.builtin .max,args,tys⟩):Ab P o (Jc (AI x) (AI y)):=by
 have ea:∀ a:Act,args.map a.eval=#[a.eval x,a.eval y]:=fun a=>by apply Array.ext';simp[ha]
 refine Ab.calm fun cf fr hp k hk=>?_
 simp only[Jc,Au,AN]at hk
 obtain⟨kd,m,hm,hk⟩:=Cq hk
 obtain⟨kd',n,hn,hk⟩:=Cq hk
 obtain⟨he,hk2⟩:=AT hk
 have hkd:=Dz he
 subst hkd
 refine⟨.i kd (if n>m then n else m),fun k'=>?_,fun ρ a A w=>?_⟩
 ·simp only[Jc,Au,AN,hm,Ct,hn,he,AF,EZ]
  by_cases hlt:m<n<;>simp[hlt]
 ·have hx:=(A x (by rw[h];simp[Op.operands,Call.operands,<-Array.mem_toList_iff,ha]))
  rw[hm]at hx
  have hx':a.eval x=.int kd m:=hx
  have hy:=(A y (by rw[h];simp[Op.operands,Call.operands,<-Array.mem_toList_iff,ha]))
  rw[hn]at hy
  have hy':a.eval y=.int kd n:=hy
  refine⟨.int kd (if n>m then n else m),?_,rfl⟩
  rw[BQ P w a o .max args tys h,ea,hx',hy']
  rfl
theorem VH (P:Program) (o:Oper) (x y:Operand) (b:Builtin) (f:Nat->Nat->Nat->Nat->Bool) (args:Array Operand) (tys:Array TypeId) (ha:args.toList=[x,y])
 (h:o.op=.call ⟨.builtin b,args,tys⟩) (hb:∀ (P:Program) (w:World) (c:Array Bool) (u v:ByteArray),(builtin b tys o.type c #[.string u,.string v]).run P w=.ok (.value (.string (if f u.data.toList.length (pk u.data.toList) v.data.toList.length (pk v.data.toList)then u else v))) w):Ab P o (K4 f (AI x) (AI y)):=by
 have ea:∀ a:Act,args.map a.eval=#[a.eval x,a.eval y]:=fun a=>by apply Array.ext';simp[ha]
 refine Ab.calm fun cf t hp k hk=>?_
 simp only[K4,AN]at hk
 obtain⟨la,na,h1,hk2⟩:=ER hk
 obtain⟨lb,nb,h2,hk3⟩:=ER hk2
 refine⟨if f la na lb nb then .s la na else .s lb nb,fun k'=>?_,fun ρ a A w=>?_⟩
 ·simp only[K4,AN,h1,Ii,h2]
  cases f la na lb nb<;>rfl
 ·have hx:=(A x (by rw[h];simp[Op.operands,Call.operands,<-Array.mem_toList_iff,ha]))
  rw[h1]at hx
  obtain⟨bx,ex,lx,px,sx⟩:=G2 hx
  have hy:=(A y (by rw[h];simp[Op.operands,Call.operands,<-Array.mem_toList_iff,ha]))
  rw[h2]at hy
  obtain⟨by',ey,ly,py,sy⟩:=G2 hy
  refine⟨.string (if f la na lb nb then bx else by'),?_,?_⟩
  ·rw[BQ P w a o b args tys h,ea,ex,ey,hb,lx,px,ly,py]
  ·rw[ex]at hx
   rw[ey]at hy
   cases f la na lb nb
   ·exact hy
   ·exact hx
theorem Vw (P:Program) (o:Oper) (x y:Operand) (args:Array Operand) (tys:Array TypeId) (s:Bool) (ha:args.toList=[x,y])
 (h:o.op=.call ⟨.builtin .min,args,tys⟩):Ab P o (runK (Qk s (AI x) (AI y))):=by
 cases s
 ·exact eh P o x y args tys ha h
 ·refine VH P o x y .min _ args tys ha h fun P w c u v=>?_
  simp only[builtin,Builtin.min_,List.foldlM,Builtin.min2,Op.stringOp,JT,H9]
  rfl
theorem Xp (P:Program) (o:Oper) (x y:Operand) (args:Array Operand) (tys:Array TypeId) (s:Bool) (ha:args.toList=[x,y])
 (h:o.op=.call ⟨.builtin .max,args,tys⟩):Ab P o (runK (QC s (AI x) (AI y))):=by
 cases s
 ·exact Yw P o x y args tys ha h
 ·refine VH P o x y .max _ args tys ha h fun P w c u v=>?_
  simp only[builtin,Builtin.max_,List.foldlM,Builtin.max2,Op.stringOp,JT]
  rfl
theorem Pg (P:Program) (o:Oper) (b:Builtin) (args:Array Operand) (tys:Array TypeId) (h:o.op=.call ⟨.builtin b,args,tys⟩):Ab P o (runK (Gy P b (args.toList.map AI) tys.toList)):=by
 unfold Gy
 split
 ·rename_i x t hx ht
  generalize ha:args.toList=al at hx
  match al,hx with
  |[y],hx=>simp only[List.map_cons,List.map_nil,List.cons.injEq,and_true]at hx;subst hx;exact cE P o t y args tys ha ht h
  |[],hx=>simp at hx
  |_::_::_,hx=>simp at hx
 ·rename_i x y hx
  generalize ha:args.toList=al at hx
  match al,hx with
  |[p,q],hx=>simp only[List.map_cons,List.map_nil,List.cons.injEq,and_true]at hx;obtain⟨rfl,rfl⟩:=hx;exact Vw P o p q args tys _ ha h
  |[],hx=>simp at hx
  |[_],hx=>simp at hx
  |_::_::_::_,hx=>simp at hx
 ·rename_i x y hx
  generalize ha:args.toList=al at hx
  match al,hx with
  |[p,q],hx=>simp only[List.map_cons,List.map_nil,List.cons.injEq,and_true]at hx;obtain⟨rfl,rfl⟩:=hx;exact Xp P o p q args tys _ ha h
  |[],hx=>simp at hx
  |[_],hx=>simp at hx
  |_::_::_::_,hx=>simp at hx
 ·rename_i x y t t' hx ht
  generalize ha:args.toList=al at hx
  match al,hx with
  |[p,q],hx=>simp only[List.map_cons,List.map_nil,List.cons.injEq,and_true]at hx;obtain⟨rfl,rfl⟩:=hx;exact Ru P o t t' p q args tys ha ht h
  |[],hx=>simp at hx
  |[_],hx=>simp at hx
  |_::_::_::_,hx=>simp at hx
 ·rename_i x y t t' hx ht
  generalize ha:args.toList=al at hx
  match al,hx with
  |[p,q],hx=>simp only[List.map_cons,List.map_nil,List.cons.injEq,and_true]at hx;obtain⟨rfl,rfl⟩:=hx;exact Sk P o t t' p q args tys ha ht h
  |[],hx=>simp at hx
  |[_],hx=>simp at hx
  |_::_::_::_,hx=>simp at hx
 ·rename_i x hx
  generalize ha:args.toList=al at hx
  match al,hx with
  |[p],hx=>simp only[List.map_cons,List.map_nil,List.cons.injEq,and_true]at hx;subst hx;exact TN P o p args tys ha h
  |[],hx=>simp at hx
  |_::_::_,hx=>simp at hx
 ·rename_i x y t t' hx ht
  generalize ha:args.toList=al at hx
  match al,hx with
  |[p,q],hx=>simp only[List.map_cons,List.map_nil,List.cons.injEq,and_true]at hx;obtain⟨rfl,rfl⟩:=hx;exact Rj P o t t' p q args tys ha ht h
  |[],hx=>simp at hx
  |[_],hx=>simp at hx
  |_::_::_::_,hx=>simp at hx
 ·rename_i x y t t' hx ht
  generalize ha:args.toList=al at hx
  match al,hx with
  |[p,q],hx=>
   simp only[List.map_cons,List.map_nil,List.cons.injEq,and_true]at hx;obtain⟨rfl,rfl⟩:=hx
   unfold Nu
   split
   ·rename_i hty
    obtain⟨i,i1,i2,i3,i4,i5⟩:=Aj hty
    exact WI P o t t' _ p q args tys ha ht i5 h
   ·exact Ae P o
  |[],hx=>simp at hx
  |[_],hx=>simp at hx
  |_::_::_::_,hx=>simp at hx
 ·rename_i x t hx ht
  generalize ha:args.toList=al at hx
  match al,hx with
  |[p],hx=>simp only[List.map_cons,List.map_nil,List.cons.injEq,and_true]at hx;subst hx;exact TE P o t p args tys ha ht h
  |[],hx=>simp at hx
  |_::_::_,hx=>simp at hx
 ·rename_i x hx
  generalize ha:args.toList=al at hx
  match al,hx with
  |[p],hx=>simp only[List.map_cons,List.map_nil,List.cons.injEq,and_true]at hx;subst hx;exact UB P o p args tys ha h
  |[],hx=>simp at hx
  |_::_::_,hx=>simp at hx
 ·exact Ae P o
theorem P4 (P:Program) (o:Oper) (f:FuncId) (args:Array Operand) (tys:Array TypeId) (h:o.op=.call ⟨.value (.func f),args,tys⟩):Ab P o (runK (Mg P f (args.toList.map AI))):=by
 unfold Mg
 split
 ·exact MM P o f args tys h
 ·rename_i fn hf
  split
  ·exact MM P o f args tys h
  ·rename_i hb
   unfold QD
   split
   ·rename_i hn
    simp only[Bool.and_eq_true,beq_iff_eq]at hn
    split
    ·rename_i x hx
     generalize ha:args.toList=al at hx
     match al,hx with
     |[p],hx=>simp only[List.map_cons,List.map_nil,List.cons.injEq,and_true]at hx;subst hx;exact ZX P o f fn hf hb p args tys ha hn.1 hn.2 h
     |[],hx=>simp at hx
     |_::_::_,hx=>simp at hx
    ·exact Ae P o
   ·unfold Nn
    split
    ·rename_i hn
     simp only[Bool.and_eq_true,beq_iff_eq]at hn
     split
     ·rename_i x y hx
      generalize ha:args.toList=al at hx
      match al,hx with
      |[p,q],hx=>
       simp only[List.map_cons,List.map_nil,List.cons.injEq,and_true]at hx
       obtain⟨rfl,rfl⟩:=hx
       exact Wt P o f fn hf hb p q args tys ha hn.1 hn.2 h
      |[],hx=>simp at hx
      |[_],hx=>simp at hx
      |_::_::_::_,hx=>simp at hx
     ·exact Ae P o
    ·exact MM P o f args tys h
theorem Qv (P:Program) (o:Oper) (c:Call) (h:o.op=.call c):Ab P o (runK (Ns P c)):=by
 obtain⟨cal,args,tys⟩:=c
 cases cal with
 |builtin b=>exact Pg P o b args tys h
 |invoke r m=>exact Ae P o
 |value f=>
  cases f with
  |func f=>exact P4 P o f args tys h
  |tmp n=>exact TG P o n args tys h
  |const _=>exact Ae P o
  |global _=>exact Ae P o
/--EVERY OPERATION:what the evaluator makes of it is what the model makes of it. -/
theorem Dq (P:Program) (o:Oper):Ab P o (runK (AU P o.op)):=by
 cases h:o.op with
 |move x=>exact QE P o x (.inl h)
 |assign x=>exact QE P o x (.inr h)
 |pick c x y=>exact Ww P o c x y h
 |alloc e=>exact SO P o e h
 |box e x=>exact fR P o e x h
 |build t ps=>exact VA P o t ps h
 |buildSlice t n ps=>exact LX P o t n ps h
 |load t x=>exact Vq P o t x h
 |store t x y=>exact P0 P o t x y h
 |binOp op tx x y ty=>exact TC P o op tx ty x y h
 |unOp op tx x=>exact Wo P o op tx x h
 |convert s d x=>exact XT P o s d x h
 |makeSlice t l c=>exact M5 P o t l c h
 |fieldAddr t x n=>exact MX P o t x n h
 |field t x n=>exact Uf P o t x n h
 |indexAddr t x y=>exact Md P o t x y h
 |extract x n=>exact Pj P o x n h
 |nilCheck x=>exact OH P o x h
 |index t x y=>exact VW P o t x y h
 |slice t x lo hi mx=>exact UA P o t x lo hi mx h
 |call c=>exact Qv P o c h
 |lookup t x q ok=>exact Rq P o t x q ok h
 |mapUpdate t x q v=>exact RV P o t x q v h
 |makeMap t r=>exact Py P o t r h
 |makeFunc fn first cap=>exact Zf P o fn first cap h
 |makeChan t n=>exact Oa P o t n h
 |_=>exact Ae P o
end Go.Ev
namespace Go.Ev
open Go
section
variable [Jo]
theorem CT.up {ρ ρ':BF} {nt:Nat} {t:F} {a:Act} (A:CT ρ nt t a) (h:ρ.le ρ'):CT ρ' nt t a:=
 ⟨A.defers,A.size,fun n hn=>At.up h _ _ (A.slot n hn)⟩
theorem Ko {nt:Nat} {dst:Option Tmp} {v:V} {t:F} {k:F->Bool} (hk:DE (Ce nt dst) v t k=true):
 ∃ t',(∀ k',DE (Ce nt dst) v t k'=k' t')/\∀ ρ a x,CT ρ nt t a->At ρ v x->CT ρ nt t' (a.put dst x):=by
 cases dst with
 |none=>exact⟨t,fun _=>rfl,fun ρ a x A _=>A⟩
 |some d=>
  have e:Ce nt (some d)=match Nat.ble (Nat.succ d) nt&&Nat.ble (Nat.succ d) 512 with|true=>.some (AV d)|false=>.bad:=rfl
  rw[e]at hk⊢
  cases hb:(Nat.ble (Nat.succ d) nt&&Nat.ble (Nat.succ d) 512)with
  |false=>rw[hb]at hk;exact Bool.noConfusion hk
  |true=>
   obtain⟨t',h1,h2,h3⟩:=GY (AV d) v t
   simp only[Bool.and_eq_true]at hb
   have hn:d<nt:=Nat.le_of_ble_eq_true hb.1
   have h5:d<512:=Nat.le_of_ble_eq_true hb.2
   refine⟨t',fun k'=>h1 k',fun ρ a x A hv=>⟨A.defers,by simp[Act.put,A.size],fun n hn'=>?_⟩⟩
   by_cases hnd:n=d
   ·subst hnd
    rw[h2]
    have:((a.put (some n) x).tmps.getD n undef)=x:=by
     simp[Act.put,A.size,hn]
    rw[this];exact hv
   ·rw[h3 _ (fun e=>hnd (Iz hn' h5 e))]
    have:((a.put (some d) x).tmps.getD n undef)=a.tmps.getD n undef:=by
     simp only[Act.put,Array.getD_eq_getD_getElem?,Array.getElem?_setIfInBounds]
     rw[if_neg (fun e=>hnd e.symm)]
    rw[this];exact A.slot n hn'
theorem qE {v:V} {w:Bool} {k:Bool->Bool} (h:vG v w k=true):∃ b,(∀ k',vG v w k'=k' b)/\((∃ x,v=.b x/\b=(x==w))\/(v=.tu []/\b=false)):=by
 cases v<;>try exact Bool.noConfusion h
 ·rename_i x
  exact⟨xor (xor x w) true,fun _=>rfl,.inl ⟨x,rfl,by cases x<;>cases w<;>rfl⟩⟩
 ·rename_i cs
  cases cs with
  |nil=>exact⟨false,fun _=>rfl,.inr ⟨rfl,rfl⟩⟩
  |cons y ys=>exact Bool.noConfusion h
theorem HE {nt:Nat} {ops:Array Oper} {o:Oper} {t:F} {k:Bool->Bool} (hk:CZ (BJ nt ops.toList o.guard) t k=true):
 ∃ b,(∀ k',CZ (BJ nt ops.toList o.guard) t k'=k' b)/\∀ (ρ:BF) (a:Act),a.tmps.size=nt->(∀ d∈Ot ops.toList o,d<512->At ρ (B2 (AV d) t) (a.tmps.getD d undef))->Region.wanted o (yielded ops a.tmps)=b:=by
 cases hg:o.guard with
 |none=>
  refine⟨true,fun _=>rfl,fun ρ a _ _=>?_⟩
  simp[Region.wanted,hg]
 |some jw=>
  obtain⟨j,w⟩:=jw
  rw[hg]at hk
  cases hj:ops.toList[j]? with
  |none=>
   have e0:BJ nt ops.toList (some (j,w))=.bad:=by simp only[BJ,hj]
   rw[e0]at hk;exact Bool.noConfusion hk
  |some oj=>
  obtain⟨dst,e1,e2,e3,e4,e5⟩:=oj
  cases dst with
  |none=>
   have e0:BJ nt ops.toList (some (j,w))=.bad:=by simp only[BJ,hj]
   rw[e0]at hk;exact Bool.noConfusion hk
  |some d=>
   have e0:BJ nt ops.toList (some (j,w))=match Nat.ble (Nat.succ d) nt&&Nat.ble (Nat.succ d) 512 with|true=>.some (AV d) w|false=>.bad:=by simp only[BJ,hj];rfl
   rw[e0]at hk⊢
   cases hb:(Nat.ble (Nat.succ d) nt&&Nat.ble (Nat.succ d) 512)with
   |false=>rw[hb]at hk;exact Bool.noConfusion hk
   |true=>
    rw[hb]at hk
    simp only[Bool.and_eq_true]at hb
    have hn:d<nt:=Nat.le_of_ble_eq_true hb.1
    have h5:d<512:=Nat.le_of_ble_eq_true hb.2
    obtain⟨b,h1,h2⟩:=qE hk
    refine⟨b,h1,fun ρ a hsz A=>?_⟩
    have hs:=A d (by simp[Ot,hg,hj,Is]) h5
    have hj':ops[j]? =some ⟨some d,e1,e2,e3,e4,e5⟩:=by simpa using hj
    have ht:a.tmps[d]? =some (a.tmps.getD d undef):=by
     have:d<a.tmps.size:=by rw[hsz];exact hn
     simp[this]
    simp only[Region.wanted,hg,yielded,hj',Option.bind_some,ht]
    rcases h2 with⟨x,hx,hb2⟩|⟨hx,hb2⟩
    ·rw[hx]at hs
     have hs':a.tmps.getD d undef=.bool x:=hs
     rw[hs',hb2]
     cases x<;>cases w<;>rfl
    ·rw[hx]at hs
     obtain⟨arr,e,_⟩:=hs
     rw[e,hb2]
     rfl
theorem Vf.upon {P:Program} {o:Oper} {a:Act} {nx:Next} {w:World} {Post:Value->World->Prop} {next:Act->World->Prop} {Q:Exit->Act->World->Prop} (h:Vf P nx w Post)
 (hn:∀ x w',Post x w'->next (a.put o.dst x) w'):o.upon P a next Q (.ok nx w):=by
 cases nx<;>try exact h.elim
 ·exact hn _ _ h
 ·exact hn _ _ h
 ·refine Calls.mono h fun e w' he=>?_
  obtain⟨x,rfl,hx⟩:=he
  exact hn _ _ hx
/--one operation's turn -/
theorem Xu {P:Program} {cf:Bo} (hcf:Fb P cf) {nt:Nat} {ops:Array Oper} {o:Oper} {Gv:Bool} {t:F} {h:H} {ih:F->H->(F->H->Bool)->Bool} {k:F->H->Bool}
 (hk:KV ⟨BJ nt ops.toList o.guard,Ce nt o.dst,Gv,AU P o.op⟩ cf ih t h k=true):
 ∃ t' h',(∀ k',KV ⟨BJ nt ops.toList o.guard,Ce nt o.dst,Gv,AU P o.op⟩ cf ih t h k'=ih t' h' k')/\Ak h h'/\B.val h.next<=B.val h'.next/\
  ∀ ρ a w w0 (next:Act->World->Prop) (Q:Exit->Act->World->Prop),CT ρ nt t a->Aw ρ h w w0->(∀ ρ' a' w',Ext h.floor ρ ρ'->CT ρ' nt t' a'->Aw ρ' h' w' w0->next a' w')->
   if Region.wanted o (yielded ops a.tmps)then o.wp P a w next Q else next (a.put o.dst undef) w:=by
 have e:∀ k',KV ⟨BJ nt ops.toList o.guard,Ce nt o.dst,Gv,AU P o.op⟩ cf ih t h k'=CZ (BJ nt ops.toList o.guard) t fun b=>IM b (AU P o.op) (Ce nt o.dst) cf ih t h k':=fun _=>rfl
 rw[e]at hk
 obtain⟨b,g1,g2⟩:=HE hk
 rw[g1]at hk
 cases b with
 |false=>
  have e2:∀ k',IM false (AU P o.op) (Ce nt o.dst) cf ih t h k'=DE (Ce nt o.dst) (.tu []) t fun t=>ih t h k':=fun _=>rfl
  rw[e2]at hk
  obtain⟨t',p1,p2⟩:=Ko hk
  refine⟨t',h,fun k'=>by rw[e,g1,e2,p1],Ak.refl h,Nat.le_refl _,fun ρ a w w0 next Q A R hn=>?_⟩
  rw[g2 ρ a A.size (fun d _ hd=>A.slot d hd)]
  simp only[Bool.false_eq_true,if_false]
  exact hn ρ _ w (Ext.refl _ ρ) (p2 ρ a undef A ⟨#[],rfl,trivial⟩) R
 |true=>
  have e2:∀ k',IM true (AU P o.op) (Ce nt o.dst) cf ih t h k'=runK (AU P o.op) cf t h (fun v h=>DE (Ce nt o.dst) v t fun t=>ih t h k'):=fun _=>rfl
  rw[e2]at hk
  obtain⟨v,h',r1,r2,r3,r4,_⟩:=Dq P o cf hcf t h _ hk
  rw[r1]at hk
  obtain⟨t',p1,p2⟩:=Ko hk
  refine⟨t',h',fun k'=>by rw[e,g1,e2,r1,p1],r2,r3,fun ρ a w w0 next Q A R hn=>?_⟩
  rw[g2 ρ a A.size (fun d _ hd=>A.slot d hd)]
  simp only[if_true]
  obtain⟨nx,w1,x1,x2⟩:=r4 ρ a w w0 (A.ops _) R
  unfold Oper.wp
  rw[x1]
  exact x2.upon fun x w' ⟨ρ',y1,y2,y3⟩=>hn ρ' _ w' y1 (p2 ρ' a x (A.up y1.1) y2) y3
theorem S3 {P:Program} {cf:Bo} (hcf:Fb P cf) {nt:Nat} {ops:Array Oper} (bars:Nat->Bool):∀ (l:List Oper) (n:Nat),ops.toList.drop n=l->∀ (t:F) (h:H) (k:F->H->Bool),
 Bu cf (AO bars P nt ops.toList (AU P) n l) t h k=true->
 ∃ t' h',(∀ k',Bu cf (AO bars P nt ops.toList (AU P) n l) t h k'=k' t' h')/\Ak h h'/\B.val h.next<=B.val h'.next/\
  ∀ ρ a w w0 (Q:Exit->Act->World->Prop),CT ρ nt t a->Aw ρ h w w0->(∀ ρ' a' w',Ext h.floor ρ ρ'->CT ρ' nt t' a'->Aw ρ' h' w' w0->Q .normal a' w')->
   wpOps P ops Q (List.range' n l.length) a w:=by
 intro l
 induction l with
 |nil=>intro n hl t h k hk;exact⟨t,h,fun _=>rfl,Ak.refl h,Nat.le_refl _,fun ρ a w w0 Q A R hq=>hq ρ a w (Ext.refl _ ρ) A R⟩
 |cons o l ih=>
  intro n hl t h k hk
  have e:∀ k',Bu cf (AO bars P nt ops.toList (AU P) n (o::l)) t h k'=
   KV ⟨BJ nt ops.toList o.guard,Ce nt o.dst,bars n,AU P o.op⟩ cf (Bu cf (AO bars P nt ops.toList (AU P) (n+1) l)) t h k':=fun _=>rfl
  rw[e]at hk
  obtain⟨t1,h1,a1,a2,a3,a4⟩:=Xu hcf hk
  rw[a1]at hk
  have hl':ops.toList.drop (n+1)=l:=by
   rw[<-List.drop_drop,hl];rfl
  obtain⟨t2,h2,b1,b2,b3,b4⟩:=ih (n+1) hl' t1 h1 k hk
  refine⟨t2,h2,fun k'=>by rw[e,a1,b1],Ak.trans a2 a3 b2,Nat.le_trans a3 b3,fun ρ a w w0 Q A R hq=>?_⟩
  have hn:ops[n]? =some o:=by
   have:ops.toList[n]? =some o:=by
    have:=congrArg (fun l=>l[0]?) hl
    simpa using this
   simpa using this
  rw[List.length_cons,List.range'_succ,wpOps_cons]
  unfold wpOp
  simp only[hn]
  have:=a4 ρ a w w0 (wpOps P ops Q (List.range' (n+1) l.length)) Q A R fun ρ' a' w' l1 A' R'=>b4 ρ' a' w' w0 Q A' R' fun ρ'' a'' w'' l2 A'' R''=>hq ρ'' a'' w'' (Ext.trans l1 (by rw[<-a2.1];exact l2)) A'' R''
  split
  ·rename_i hw;simp only[hw,if_true]at this;exact .inl this
  ·rename_i hw;simp only[hw]at this;exact this
def OE (a:Act) (r:ResultVar):Sem Value:=match r with
 |.tmp t=>pure (a.tmps.getD t undef)
 |.cell ad t=>do loadVar t (<-asAddr (a.tmps.getD ad undef))
theorem qQ {P:Program} {nt:Nat} {r:ResultVar} {t:F} {h:H} {k:V->Bool} (hk:jW (EU P r) t h k=true):
 ∃ v,(∀ k',jW (EU P r) t h k'=k' v)/\∀ ρ a w w0,CT ρ nt t a->Aw ρ h w w0->∃ x,At ρ v x/\
  (OE a r).run P w=.ok x w:=by
 cases r with
 |tmp d=>
  have e:EU P (.tmp d)=match Nat.ble (Nat.succ d) 512 with|true=>.tmp (AV d)|false=>.no:=rfl
  rw[e]at hk⊢
  cases hb:Nat.ble (Nat.succ d) 512 with
  |false=>rw[hb]at hk;exact Bool.noConfusion hk
  |true=>exact⟨B2 (AV d) t,fun k'=>by show B0 _ _=_;rw[BM],fun ρ a w w0 A R=>⟨_,A.slot d (Nat.le_of_ble_eq_true hb),rfl⟩⟩
 |cell d el=>
  unfold EU at hk⊢
  simp only at hk⊢
  cases ht:Ar P el with
  |none=>rw[ht]at hk;exact Bool.noConfusion hk
  |some ty=>
   cases hb:Nat.ble (Nat.succ d) 512 with
   |false=>rw[ht,hb]at hk;exact Bool.noConfusion hk
   |true=>
    rw[ht,hb]at hk
    obtain⟨size,bytes,dd,z⟩:=ty
    obtain⟨i,i1,i2,i3,i4,i5⟩:=Aj ht
    simp only at hk⊢
    cases hd:Ef dd with
    |false=>
     rw[hd]at hk
     simp only at hk⊢
     have hk':(vP (B2 (AV d) t) fun id g off fin=>DI h id g off fin k)=true:=hk
     obtain⟨id,g,off,fin,hv,hk'⟩:=FV hk'
     obtain⟨v,h1,h2⟩:=IW hk'
     refine⟨v,fun k'=>?_,fun ρ a w w0 A R=>?_⟩
     ·show(vP (B2 (AV d) t) fun id g off fin=>DI h id g off fin k')=_
      rw[hv];exact h1 k'
     ·have hs:=A.slot d (Nat.le_of_ble_eq_true hb)
      rw[hv]at hs
      obtain⟨L,l1,l2,l3,l4⟩:=hs
      obtain⟨y,y1,y2⟩:=h2 ρ w w0 L R l1 l3 l4
      refine⟨y,y1,?_⟩
      simp only[OE,l2,asAddr,Sem.run_bind,Sem.run_pure',Result.andThen_ok,loadVar,GJ i5,hd,Bool.false_eq_true,if_false,run_load,y2]
    |true=>
     rw[hd]at hk
     simp only at hk⊢
     have hk':(vP (B2 (AV d) t) fun id g off fin=>Bz h id g off fin size fun vs=>k (.a vs))=true:=hk
     obtain⟨id,g,off,fin,hv,hk'⟩:=FV hk'
     obtain⟨vs,h1,h2,h3⟩:=EX hk'
     refine⟨.a vs,fun k'=>?_,fun ρ a w w0 A R=>?_⟩
     ·show(vP (B2 (AV d) t) fun id g off fin=>Bz h id g off fin size fun vs=>k' (.a vs))=_
      rw[hv];exact h1 _
     ·have hs:=A.slot d (Nat.le_of_ble_eq_true hb)
      rw[hv]at hs
      obtain⟨L,l1,l2,l3,l4⟩:=hs
      obtain⟨xs,x1,x2,x3⟩:=h3 ρ w w0 L R l1 l3 l4
      refine⟨.agg xs.toArray,⟨_,rfl,by simpa using x1⟩,?_⟩
      simp only[OE,l2,asAddr,Sem.run_bind,Sem.run_pure',Result.andThen_ok,loadVar,GJ i5,hd,if_true,Ax i1,i2,x2]
theorem Sy {P:Program} {nt:Nat}:∀ (rs:List ResultVar) (t:F) (h:H) (k:List V->Bool),Fq (rs.map (EU P)) t h k=true->
 ∃ vs,(∀ k',Fq (rs.map (EU P)) t h k'=k' vs)/\∀ ρ a w w0,CT ρ nt t a->Aw ρ h w w0->∃ xs,BG ρ vs xs/\
  (rs.mapM (OE a):Sem (List Value)).run P w=.ok xs w
 |[],t,h,k,_=>⟨[],fun _=>rfl,fun ρ a w w0 A R=>⟨[],trivial,rfl⟩⟩
 |r::rs,t,h,k,hk=>by
  have e:∀ k',Fq ((r::rs).map (EU P)) t h k'=jW (EU P r) t h fun v=>Fq (rs.map (EU P)) t h fun vs=>k' (v::vs):=fun _=>rfl
  rw[e]at hk
  obtain⟨v,h1,h2⟩:=qQ (nt:=nt) hk
  rw[h1]at hk
  obtain⟨vs,h3,h4⟩:=Sy (nt:=nt) rs t h _ hk
  refine⟨v::vs,fun k'=>by rw[e,h1,h3],fun ρ a w w0 A R=>?_⟩
  obtain⟨x,x1,x2⟩:=h2 ρ a w w0 A R
  obtain⟨xs,y1,y2⟩:=h4 ρ a w w0 A R
  refine⟨x::xs,⟨x1,y1⟩,?_⟩
  rw[List.mapM_cons]
  simp only[Sem.run_bind,x2,Result.andThen_ok,y2]
  rfl
theorem Hv {P:Program} {nt:Nat} {fn:Func} {t:F} {h:H} {k:List V->Bool} (hk:Fq (fn.results.toList.map (EU P)) t h k=true):
 ∃ vs,(∀ k',Fq (fn.results.toList.map (EU P)) t h k'=k' vs)/\∀ ρ a w w0,CT ρ nt t a->Aw ρ h w w0->∃ x,At ρ (one vs) x/\(results fn a.tmps).run P w=.ok x w:=by
 obtain⟨vs,h1,h2⟩:=Sy (nt:=nt) _ t h k hk
 refine⟨vs,h1,fun ρ a w w0 A R=>?_⟩
 obtain⟨xs,x1,x2⟩:=h2 ρ a w w0 A R
 have hrun:(results fn a.tmps).run P w=.ok (if h:xs.toArray.size=1 then xs.toArray[0]else .tuple xs.toArray) w:=by
  have e:results fn a.tmps=(do
   let vs<-fn.results.mapM (OE a)
   pure (if h:vs.size=1 then vs[0]else .tuple vs)):=by
   unfold results
   congr 2
  rw[e,Array.mapM_eq_mapM_toList]
  simp only[Sem.run_bind,Sem.run_map,x2,Result.andThen_ok]
  rfl
 refine⟨_,?_,hrun⟩
 match vs,xs,x1 with
 |[],[],_=>exact⟨#[],rfl,trivial⟩
 |[v],[x],x1=>exact x1.1
 |v::v'::vs,x::x'::xs,x1=>
  have:¬(x::x'::xs).toArray.size=1:=by simp
  rw[dif_neg this]
  exact⟨_,rfl,x1⟩
def wU:X->Exit
 |.normal=>.normal
 |.exit id=>.exit id
 |.ret=>.ret
def D2 (P:Program) (nt:Nat) (c:Code) (t:F) (h:H) (x:X) (t':F) (h':H):Prop:=
 ∀ ρ a w w0 (Q:Exit->Act->World->Prop),CT ρ nt t a->Aw ρ h w w0->(∀ ρ' a' w',Ext h.floor ρ ρ'->CT ρ' nt t' a'->Aw ρ' h' w' w0->Q (wU x) a' w')->c.wp P Q a w
def Jx (P:Program) (c:Code) (Q:Exit->Act->World->Prop) (a:Act) (w:World):Prop:=
 ∀ (b:Frame) (k:List Item) (cs:List Frame),∃ e a' w',Q e a' w'/\Arrives P (lone (b.at a (.code c::.inLoop c::k)) cs w) b k cs e a' w'
theorem K7 {P:Program} {c:Code} {Q:Exit->Act->World->Prop} {a:Act} {w:World} (h:Jx P c Q a w):(Code.loop c).wp P Q a w:=by
 intro b k cs
 obtain⟨e,a',w',hq,harr⟩:=h b k cs
 exact⟨e,a',w',hq,.of_steps (.one step_loop) harr⟩
theorem DH {P:Program} {c:Code} {Q:Exit->Act->World->Prop} {a:Act} {w:World} (h:c.wp P (Exit.then (Jx P c Q) Q) a w):Jx P c Q a w:=by
 intro b k cs
 obtain⟨e,a₁,w₁,hq,harr⟩:=h b (.inLoop c::k) cs
 cases e with
 |normal=>
  obtain⟨e₂,a₂,w₂,hq₂,harr₂⟩:=hq b k cs
  exact⟨e₂,a₂,w₂,hq₂,.of_steps (Steps.trans harr (.one step_inLoop)) harr₂⟩
 |exit id=>exact⟨_,a₁,w₁,hq,.pass (x:=.inLoop c) rfl (fun _ _=>.inl (by simp)) harr⟩
 |goto l=>exact⟨_,a₁,w₁,hq,.pass (x:=.inLoop c) rfl (fun _ _=>.inl (by simp)) harr⟩
 |ret=>exact⟨_,a₁,w₁,hq,.pass (x:=.inLoop c) rfl (fun _ _=>.inl (by simp)) harr⟩
 |panic ch=>exact⟨_,a₁,w₁,hq,.pass (x:=.inLoop c) rfl (fun _ _=>.inl (by simp)) harr⟩
 |outgrown=>exact⟨_,a₁,w₁,hq,.pass (x:=.inLoop c) rfl (fun _ _=>.inl (by simp)) harr⟩
def Lf (P:Program) (nt:Nat) (c:Code) (t:F) (h:H) (x:X) (t':F) (h':H):Prop:=
 ∀ ρ a w w0 (Q:Exit->Act->World->Prop),CT ρ nt t a->Aw ρ h w w0->(∀ ρ' a' w',Ext h.floor ρ ρ'->CT ρ' nt t' a'->Aw ρ' h' w' w0->Q (wU x) a' w')->Jx P c Q a w
def cX (tb:Nat->Option Sp) (P:Program) (n:Nat):Prop:=∀ nt (c:Code) t h k,exec tb (AY P) n (comp P nt c) t h k=true->
 ∃ x t' h',(∀ k',exec tb (AY P) n (comp P nt c) t h k'=k' x t' h')/\Ak h h'/\B.val h.next<=B.val h'.next/\D2 P nt c t h x t' h'
def si (tb:Nat->Option Sp) (P:Program) (n:Nat):Prop:=∀ nt (c:Code) t h k,exec tb (AY P) n (.loop (comp P nt c)) t h k=true->
 ∃ x t' h',(∀ k',exec tb (AY P) n (.loop (comp P nt c)) t h k'=k' x t' h')/\Ak h h'/\B.val h.next<=B.val h'.next/\Lf P nt c t h x t' h'
theorem Aw.grow {ρ:BF} {h:H} {w w' w0:World} (R:Aw ρ h w w0) (hb:∀ b:Nat,b<w.heap.size->w'.heap[b]? =w.heap[b]?) (hs:w.heap.size<=w'.heap.size) (hz:w'.tape=w.tape) (ho:w'.os=w.os) (ht:w'.output=w.output):Aw ρ h w' w0:=by
 refine⟨fun id g L hL=>?_,R.ids,R.sep,R.Kg,fun b hb'=>(hb b (Nat.lt_of_lt_of_le hb' R.I1)).trans (R.IH b hb'),R.up,hz.trans R.tp,ho.trans R.os,ht.trans R.out,Nat.le_trans R.I1 hs,R.mp.of (BF.le_refl ρ) fun id L Af h1 h2 _ _=>⟨h1,h2,by obtain⟨_,_,_,a3,_⟩:=R.loc _ _ _ h1;exact hb _ a3⟩,R.Mu.of fun id g L Af h1 h2 _ _=>⟨h1,h2,by obtain⟨_,_,_,a3,_⟩:=R.loc _ _ _ h1;exact hb _ a3⟩⟩
 obtain⟨Af,a1,a2,a3,a4,a5,a6,a7⟩:=R.loc _ _ _ hL
 refine⟨Af,a1,a2,Nat.lt_of_lt_of_le a3 hs,a4,a5,a6,fun hm=>?_⟩
 obtain⟨c,el,b1,b2⟩:=a7 hm
 exact⟨c,el,b1.congr (hb _ a3),b2⟩
/--a function without parameters that returns true and leaves all that was there -/
def UM (w w':World):Prop:=(∀ b:Nat,b<w.heap.size->w'.heap[b]? =w.heap[b]?)/\w.heap.size<=w'.heap.size/\w'.tape=w.tape/\w'.os=w.os/\w'.output=w.output
def Kb (P:Program) (f:FuncId):Prop:=∀ w,(callFunc f #[]).run P w=.ok (.enter f #[]) w/\Calls P f #[] w fun e w'=>e=.returned (.bool true)/\UM w w'
theorem F9:∀ (vs:List V) (n:Nat) (t:F) (k:F->Bool),n+vs.length<=512->∃ t',(∀ k',Ci vs n t k'=k' t')/\(∀ i v,vs[i]? =some v->B2 (AV (n+i)) t'=v)/\
 ∀ m,m<512->(m<n\/n+vs.length<=m)->B2 (AV m) t'=B2 (AV m) t
 |[],n,t,k,_=>⟨t,fun _=>rfl,fun i v h=>by simp at h,fun _ _ _=>rfl⟩
 |v::vs,n,t,k,hl=>by
  simp only[List.length_cons]at hl
  obtain⟨t1,h1,h2,h3⟩:=GY (AV n) v t
  obtain⟨t2,g1,g2,g3⟩:=F9 vs (n+1) t1 k (by omega)
  have e:∀ k',Ci (v::vs) n t k'=KW (AV n) v t fun t=>Ci vs (n+1) t k':=fun _=>rfl
  refine⟨t2,fun k'=>by rw[e,h1,g1],fun i u hi=>?_,fun m hm hmn=>?_⟩
  ·cases i with
   |zero=>
    simp at hi
    subst hi
    rw[Nat.add_zero,g3 n (by omega) (.inl (by omega)),h2]
   |succ i=>
    have:=g2 i u (by simpa using hi)
    rwa [show n+1+i=n+(i+1)by omega]at this
  ·rw[g3 m hm (by simp at hmn;omega),h3 _ (fun e=>by have:=Iz hm (by omega) e;simp at hmn;omega)]
theorem Lr (s:Sl):B2 s F.zero=.u:=by
 obtain⟨x,y,z⟩:=s
 cases x<;>cases y<;>cases z<;>rfl
/--a function that is known -/
def vd (P:Program) (f:FuncId) (g:Sp):Prop:=∀ vs h k,g vs h k=true->∃ v h',(∀ k',g vs h k'=k' v h')/\Ak h h'/\B.val h.next<=B.val h'.next/\
 ∀ ρ w w0 args,BG ρ vs args->Aw ρ h w w0->
  (callFunc f args.toArray).run P w=.ok (.enter f args.toArray) w/\Calls P f args.toArray w fun e w'=>∃ x,e=.returned x/\KN h.floor ρ w0 v h' x w'
def Rd (P:Program) (tb:Nat->Option Sp):Prop:=∀ f g,tb f=some g->vd P f g
end
/--a function,if its code is sound -/
theorem VT {P:Program} {f:FuncId} {fn:Func} {body:Code} (hfn':P.funcs[f]? =some fn) (hbd:fn.body=some body) (hnm:(fn.name== "runtime.NumGoroutine")=false) {run:F->H->(X->F->H->Bool)->Bool}
 (I:F->Prop) (hE:∀ t h k,I t->run t h k=true->∃ x t' h',(∀ k',run t h k'=k' x t' h')/\Ak h h'/\B.val h.next<=B.val h'.next/\D2 P fn.ntmps body t h x t' h') (vs:List V) (h:H) (k:V->H->Bool) (hI:∀ t,(∀ K,Ci vs 0 F.zero K=K t)->I t)
 (hk:(Ap (Nat.ble vs.length fn.ntmps) fun _=>Ap (Nat.ble vs.length 512) fun _=>Ci vs 0 F.zero fun t=>run t h (I3 (fn.results.toList.map (EU P)) k))=true):
 ∃ v h',(∀ k',(Ap (Nat.ble vs.length fn.ntmps) fun _=>Ap (Nat.ble vs.length 512) fun _=>Ci vs 0 F.zero fun t=>run t h (I3 (fn.results.toList.map (EU P)) k'))=k' v h')/\Ak h h'/\B.val h.next<=B.val h'.next/\
  ∀ ρ w w0 args,BG ρ vs args->Aw ρ h w w0->
   (callFunc f args.toArray).run P w=.ok (.enter f args.toArray) w/\body.wp P (bodyPost P fn fun e w'=>∃ x,e=.returned x/\KN h.floor ρ w0 v h' x w') {tmps:=args.toArray++Array.replicate (fn.ntmps-args.toArray.size) undef,defers:=[]} w:=by
 obtain⟨hb1,hk⟩:=AT hk
 obtain⟨hb2,hk⟩:=AT hk
 have hl1:vs.length<=fn.ntmps:=Nat.le_of_ble_eq_true hb1
 have hl2:vs.length<=512:=Nat.le_of_ble_eq_true hb2
 obtain⟨t0,s1,s2,s3⟩:=F9 vs 0 F.zero (fun _=>true) (by omega)
 rw[s1]at hk
 obtain⟨x,t',h',x1,x2,x3,x4⟩:=hE _ _ _ (hI t0 s1) hk
 rw[x1]at hk
 have hret:∃ vs',(∀ k',I3 (fn.results.toList.map (EU P)) k' x t' h'=k' (one vs') h')/\(x=.normal\/x=.ret)/\
  ∀ ρ a w w0,CT ρ fn.ntmps t' a->Aw ρ h' w w0->∃ y,At ρ (one vs') y/\(results fn a.tmps).run P w=.ok y w:=by
  cases x with
  |exit id=>exact Bool.noConfusion hk
  |normal=>
   have hk':(Fq (fn.results.toList.map (EU P)) t' h' fun vs=>B0 (one vs) fun v=>k v h')=true:=hk
   obtain⟨vs',r1,r2⟩:=Hv (nt:=fn.ntmps) hk'
   exact⟨vs',fun k'=>by show(Fq (fn.results.toList.map (EU P)) t' h' fun vs=>B0 (one vs) fun v=>k' v h')=_;rw[r1,BM],.inl rfl,r2⟩
  |ret=>
   have hk':(Fq (fn.results.toList.map (EU P)) t' h' fun vs=>B0 (one vs) fun v=>k v h')=true:=hk
   obtain⟨vs',r1,r2⟩:=Hv (nt:=fn.ntmps) hk'
   exact⟨vs',fun k'=>by show(Fq (fn.results.toList.map (EU P)) t' h' fun vs=>B0 (one vs) fun v=>k' v h')=_;rw[r1,BM],.inr rfl,r2⟩
 obtain⟨vs',r1,r2,r3⟩:=hret
 refine⟨one vs',h',fun k'=>by rw[hb1,hb2];simp only[AF];rw[s1,x1,r1],x2,x3,fun ρ w w0 args hargs R=>?_⟩
 have hal:=hargs.length
 constructor
 ·have hp:(program:Sem Program).run P w=.ok P w:=rfl
  unfold callFunc
  simp only[Sem.run_bind,hp,Result.andThen_ok,hfn',hnm,Bool.false_eq_true,if_false,hbd,Option.isNone_some]
  rfl
 ·have A0:CT ρ fn.ntmps t0 {tmps:=args.toArray++Array.replicate (fn.ntmps-args.toArray.size) undef,defers:=[]}:=by
   refine⟨rfl,by simp;omega,fun m hm=>?_⟩
   by_cases hmv:m<vs.length
   ·have hv:vs[m]? =some (vs[m]'hmv):=by simp
    obtain⟨y,y1,y2⟩:=hargs.get hv
    have:=s2 m _ hv
    rw[Nat.zero_add]at this
    rw[this]
    have hy:(args.toArray++Array.replicate (fn.ntmps-args.toArray.size) undef).getD m undef=y:=by
     have hma:m<args.length:=by omega
     rw[Array.getD_eq_getD_getElem?,Array.getElem?_append_left (by simpa using hma)]
     simp[y1]
    rw[hy];exact y2
   ·rw[s3 m hm (.inr (by omega)),Lr];trivial
  refine x4 ρ _ w w0 _ A0 R fun ρ' a' w' hle A' R'=>?_
  obtain⟨y,y1,y2⟩:=r3 ρ' a' w' w0 A' R'
  rcases r2 with rfl|rfl
  ·exact⟨A'.defers,y,y2,y,rfl,ρ',hle,y1,R'⟩
  ·exact⟨A'.defers,y,y2,y,rfl,ρ',hle,y1,R'⟩
theorem RI {P:Program} {f:FuncId} {fn:Func} {body:Code} (hfn':P.funcs[f]? =some fn) (hbd:fn.body=some body) (hnm:(fn.name== "runtime.NumGoroutine")=false) {run:F->H->(X->F->H->Bool)->Bool}
 (I:F->Prop) (hE:∀ t h k,I t->run t h k=true->∃ x t' h',(∀ k',run t h k'=k' x t' h')/\Ak h h'/\B.val h.next<=B.val h'.next/\D2 P fn.ntmps body t h x t' h') (vs:List V) (h:H) (k:V->H->Bool) (hI:∀ t,(∀ K,Ci vs 0 F.zero K=K t)->I t)
 (hk:(Ap (Nat.ble vs.length fn.ntmps) fun _=>Ap (Nat.ble vs.length 512) fun _=>Ci vs 0 F.zero fun t=>run t h (I3 (fn.results.toList.map (EU P)) k))=true):
 ∃ v h',(∀ k',(Ap (Nat.ble vs.length fn.ntmps) fun _=>Ap (Nat.ble vs.length 512) fun _=>Ci vs 0 F.zero fun t=>run t h (I3 (fn.results.toList.map (EU P)) k'))=k' v h')/\Ak h h'/\B.val h.next<=B.val h'.next/\
  ∀ ρ w w0 args,BG ρ vs args->Aw ρ h w w0->
   (callFunc f args.toArray).run P w=.ok (.enter f args.toArray) w/\Calls P f args.toArray w fun e w'=>∃ x,e=.returned x/\KN h.floor ρ w0 v h' x w':=by
 obtain⟨v,h',a1,a2,a3,a4⟩:=VT hfn' hbd hnm I hE vs h k hI hk
 exact⟨v,h',a1,a2,a3,fun ρ w w0 args hargs R=>⟨(a4 ρ w w0 args hargs R).1,calls_of_wp hfn' hbd (a4 ρ w w0 args hargs R).2⟩⟩
theorem T9 {P:Program} {f:FuncId} {fn:Func} {body:Code} (hfn':P.funcs[f]? =some fn) (hbd:fn.body=some body) (hnm:(fn.name== "runtime.NumGoroutine")=false) {run:F->H->(X->F->H->Bool)->Bool}
 (hE:∀ t h k,run t h k=true->∃ x t' h',(∀ k',run t h k'=k' x t' h')/\Ak h h'/\B.val h.next<=B.val h'.next/\D2 P fn.ntmps body t h x t' h') (vs:List V) (h:H) (k:V->H->Bool)
 (hk:(Ap (Nat.ble vs.length fn.ntmps) fun _=>Ap (Nat.ble vs.length 512) fun _=>Ci vs 0 F.zero fun t=>run t h (I3 (fn.results.toList.map (EU P)) k))=true):
 ∃ v h',(∀ k',(Ap (Nat.ble vs.length fn.ntmps) fun _=>Ap (Nat.ble vs.length 512) fun _=>Ci vs 0 F.zero fun t=>run t h (I3 (fn.results.toList.map (EU P)) k'))=k' v h')/\Ak h h'/\B.val h.next<=B.val h'.next/\
  ∀ ρ w w0 args,BG ρ vs args->Aw ρ h w w0->
   (callFunc f args.toArray).run P w=.ok (.enter f args.toArray) w/\Calls P f args.toArray w fun e w'=>∃ x,e=.returned x/\KN h.floor ρ w0 v h' x w':=
 RI hfn' hbd hnm (fun _=>True) (fun t h k _ hk=>hE t h k hk) vs h k (fun _ _=>trivial) hk
theorem Oc {tb:Nat->Option Sp} {P:Program} (htb:Rd P tb) {n:Nat} (hE:cX tb P n):Fb P (Fo tb (exec tb (AY P) n) (AY P)):=by
 intro f vs h k hk
 cases htf:tb f with
 |some g=>
  have e:∀ k',Fo tb (exec tb (AY P) n) (AY P) f vs h k'=g vs h k':=fun k'=>by unfold Fo;rw[htf]
  rw[e]at hk
  obtain⟨v,h',a1,a2⟩:=htb f g htf vs h k hk
  exact⟨v,h',fun k'=>by rw[e,a1],a2⟩
 |none=>
 have e:∀ k',Fo tb (exec tb (AY P) n) (AY P) f vs h k'=CF.rec (motive:=fun _=>Ex->List V->H->(V->H->Bool)->Bool) (fun nt body rs ex args h k=>Ap (Nat.ble args.length nt) fun _=>Ap (Nat.ble args.length 512) fun _=>Ci args 0 F.zero fun t=>ex body t h (I3 rs k)) (AY P f) (exec tb (AY P) n) vs h k':=fun k'=>by unfold Fo;rw[htf]
 rw[e]at hk
 cases hfn:P.funcs.toList[f]? with
 |none=>
  have hc:AY P f=⟨0,.bad,[]⟩:=by simp only[AY,hfn]
  rw[hc]at hk
  have hk':(Ap (Nat.ble vs.length 0) fun _=>Ap (Nat.ble vs.length 512) fun _=>Ci vs 0 F.zero fun t=>exec tb (AY P) n .bad t h (I3 [] k))=true:=hk
  obtain⟨hb,hk'⟩:=AT hk'
  obtain⟨_,hk'⟩:=AT hk'
  have hl:vs.length<=0:=Nat.le_of_ble_eq_true hb
  obtain⟨t',s1,_⟩:=F9 vs 0 F.zero (fun _=>true) (by omega)
  rw[s1]at hk'
  cases n<;>exact Bool.noConfusion hk'
 |some fn=>
  have hfn':P.funcs[f]? =some fn:=by simpa using hfn
  cases hbd:fn.body with
  |none=>
   have hc:AY P f=⟨0,.bad,[]⟩:=by simp only[AY,hfn,hbd]
   rw[hc]at hk
   have hk':(Ap (Nat.ble vs.length 0) fun _=>Ap (Nat.ble vs.length 512) fun _=>Ci vs 0 F.zero fun t=>exec tb (AY P) n .bad t h (I3 [] k))=true:=hk
   obtain⟨hb,hk'⟩:=AT hk'
   obtain⟨_,hk'⟩:=AT hk'
   have hl:vs.length<=0:=Nat.le_of_ble_eq_true hb
   obtain⟨t',s1,_⟩:=F9 vs 0 F.zero (fun _=>true) (by omega)
   rw[s1]at hk'
   cases n<;>exact Bool.noConfusion hk'
  |some body=>
   cases hnm:(fn.name== "runtime.NumGoroutine")with
   |true=>
    have hc:AY P f=⟨0,.bad,[]⟩:=by simp only[AY,hfn,hbd,hnm]
    rw[hc]at hk
    have hk':(Ap (Nat.ble vs.length 0) fun _=>Ap (Nat.ble vs.length 512) fun _=>Ci vs 0 F.zero fun t=>exec tb (AY P) n .bad t h (I3 [] k))=true:=hk
    obtain⟨hb,hk'⟩:=AT hk'
    obtain⟨_,hk'⟩:=AT hk'
    have hl:vs.length<=0:=Nat.le_of_ble_eq_true hb
    obtain⟨t',s1,_⟩:=F9 vs 0 F.zero (fun _=>true) (by omega)
    rw[s1]at hk'
    cases n<;>exact Bool.noConfusion hk'
   |false=>
    have hc:AY P f=⟨fn.ntmps,comp P fn.ntmps body,fn.results.toList.map (EU P)⟩:=by simp only[AY,hfn,hbd,hnm]
    have e':∀ k',Fo tb (exec tb (AY P) n) (AY P) f vs h k'=(Ap (Nat.ble vs.length fn.ntmps) fun _=>Ap (Nat.ble vs.length 512) fun _=>Ci vs 0 F.zero fun t=>exec tb (AY P) n (comp P fn.ntmps body) t h (I3 (fn.results.toList.map (EU P)) k')):=by
     intro k';rw[e,hc]
    rw[<-e,e']at hk
    obtain⟨v,h',b1,b2⟩:=T9 hfn' hbd hnm (run:=exec tb (AY P) n (comp P fn.ntmps body)) (fun t h k hk=>hE _ _ t h k hk) vs h k hk
    exact⟨v,h',fun k'=>by rw[e',b1],b2⟩
end Go.Ev
namespace Go.Ev
open Go Go.Conc
variable [Jo]
/--what is left of a region comes to a state of which Q holds -/
def Gq (P:Program) (ops:Array Oper) (l:List Nat) (Q:Exit->Act->World->Prop) (a:Act) (w:World):Prop:=
 ∀ (b:Frame) (k:List Item) (cs:List Frame),∃ e a' w',Q e a' w'/\Arrives P (lone (b.at a (.inRegion ops l::k)) cs w) b k cs e a' w'
section
variable {P:Program} {ops:Array Oper} {i:Nat} {rest:List Nat} {o:Oper} {a:Act} {w w1:World} {nx:Next} {Q:Exit->Act->World->Prop} {Post:Value->World->Prop}
theorem RK (h:Q .normal a w):Gq P ops [] Q a w:=fun b k cs=>⟨.normal,a,w,h,.one step_region_end⟩
theorem Tw (ho:ops[i]? =some o) (hw:Region.wanted o (yielded ops a.tmps)=true) (hr:(execOp a.eval o).run P w=.ok nx w1) (hn:Vf P nx w1 Post) (hq:∀ x w',Post x w'->Gq P ops rest Q (a.put o.dst x) w'):
 Gq P ops (i::rest) Q a w:=by
 intro b k cs
 have hg:=stepG_op (P:=P) (b:=b) (k:=k) (cs:=cs) (w:=w) (rest:=rest) ho hw
 have hfin:∀ v,(b.at a (.inRegion ops (i::rest)::k)).finish v=b.at (a.put o.dst v) (.inRegion ops rest::k):=by
  intro v;rw[Frame.finish_at,ho];rfl
 cases nx with
 |value v=>
  obtain⟨e,a',w',q,r⟩:=hq v w1 hn b k cs
  exact⟨e,a',w',q,.of_steps (.one (step_lone_go (by rw[hg,<-hfin];simp[stepG.apply,hr]))) r⟩
 |skip=>
  obtain⟨e,a',w',q,r⟩:=hq undef w1 hn b k cs
  exact⟨e,a',w',q,.of_steps (.one (step_lone_go (by rw[hg,<-hfin];simp[stepG.apply,hr]))) r⟩
 |enter f args=>
  have henter:step P (lone (b.at a (.inRegion ops (i::rest)::k)) cs w)=.next (lone (Frame.enter P f args .normal) (b.at a (.inRegion ops (i::rest)::k)::cs) w1):=
   step_lone_go (by rw[hg];simp[stepG.apply,hr,Frame.at])
  obtain⟨e0,w2,fr,⟨x,rfl,hp⟩,hs,_,hl⟩:=hn (b.at a (.inRegion ops (i::rest)::k)::cs)
  obtain⟨e,a',w',q,r⟩:=hq x w2 hp b k cs
  refine⟨e,a',w',q,.of_steps (.head henter (Steps.trans hs (.one ?_))) r⟩
  rw[<-hfin];exact step_leave_returned hl
 |_=>exact hn.elim
theorem Ou (ho:ops[i]? =some o) (hw:Region.wanted o (yielded ops a.tmps)=false) (hq:Gq P ops rest Q (a.put o.dst undef) w):Gq P ops (i::rest) Q a w:=by
 intro b k cs
 obtain⟨e,a',w',q,r⟩:=hq b k cs
 have hs:=step_op_skip (P:=P) (b:=b) (a:=a) (k:=k) (cs:=cs) (w:=w) (ops:=ops) (i:=i) (rest:=rest) (by simp[ho,hw])
 simp only[ho,Option.bind_some]at hs
 exact⟨e,a',w',q,.of_steps (.one hs) r⟩
theorem P6 {cases:Array CommCase} {bl:Bool} {shp:CommShape} (ho:ops[i]? =some o) (hw:Region.wanted o (yielded ops a.tmps)=true) (hr:(execOp a.eval o).run P w=.ok (.comm cases bl shp) w)
 (hs:∀ fr cs es,stepG P true (Conc.G fr cs) w=.comm (Conc.G fr cs) cases bl shp w es->∃ x w',step P (solo (Conc.G fr cs) w)=.next (solo (Conc.G (fr.finish x) cs) w')/\Post x w')
 (hq:∀ x w',Post x w'->Gq P ops rest Q (a.put o.dst x) w'):Gq P ops (i::rest) Q a w:=by
 intro b k cs
 have hfin:∀ v,(b.at a (.inRegion ops (i::rest)::k)).finish v=b.at (a.put o.dst v) (.inRegion ops rest::k):=by
  intro v;rw[Frame.finish_at,ho];rfl
 have hg:∃ es,stepG P true (Conc.G (b.at a (.inRegion ops (i::rest)::k)) cs) w=.comm (Conc.G (b.at a (.inRegion ops (i::rest)::k)) cs) cases bl shp w es:=by
  rw[stepG_oper ho hw]
  by_cases hk:(b.kind==CallKind.early)=true
  ·exact⟨_,by simp[stepG.apply,hr,Conc.G,Frame.at,hk,GStep.after];rfl⟩
  ·exact⟨_,by simp[stepG.apply,hr,Conc.G,Frame.at,hk,GStep.after];rfl⟩
 obtain⟨es,hg⟩:=hg
 obtain⟨x,w',h1,h2⟩:=hs _ _ _ hg
 rw[hfin]at h1
 obtain⟨e,a',w2,q,r⟩:=hq x w' h2 b k cs
 exact⟨e,a',w2,q,.of_steps (.one h1) r⟩
end
theorem hP {P:Program} {cf:Bo} (hcf:Fb P cf) {nt:Nat} {ops:Array Oper} {i:Nat} {o:Oper} (ho:ops[i]? =some o) {Gv:Bool} {t:F} {h:H} {ih:F->H->(F->H->Bool)->Bool} {k:F->H->Bool}
 (hk:KV ⟨BJ nt ops.toList o.guard,Ce nt o.dst,Gv,AU P o.op⟩ cf ih t h k=true):
 ∃ t' h',(∀ k',KV ⟨BJ nt ops.toList o.guard,Ce nt o.dst,Gv,AU P o.op⟩ cf ih t h k'=ih t' h' k')/\Ak h h'/\B.val h.next<=B.val h'.next/\
  ∀ ρ a w w0 rest (Q:Exit->Act->World->Prop),CT ρ nt t a->Aw ρ h w w0->(∀ ρ' a' w',Ext h.floor ρ ρ'->CT ρ' nt t' a'->Aw ρ' h' w' w0->Gq P ops rest Q a' w')->Gq P ops (i::rest) Q a w:=by
 have e:∀ k',KV ⟨BJ nt ops.toList o.guard,Ce nt o.dst,Gv,AU P o.op⟩ cf ih t h k'=CZ (BJ nt ops.toList o.guard) t fun b=>IM b (AU P o.op) (Ce nt o.dst) cf ih t h k':=fun _=>rfl
 rw[e]at hk
 obtain⟨b,g1,g2⟩:=HE hk
 rw[g1]at hk
 cases b with
 |false=>
  have e2:∀ k',IM false (AU P o.op) (Ce nt o.dst) cf ih t h k'=DE (Ce nt o.dst) (.tu []) t fun t=>ih t h k':=fun _=>rfl
  rw[e2]at hk
  obtain⟨t',p1,p2⟩:=Ko hk
  refine⟨t',h,fun k'=>by rw[e,g1,e2,p1],Ak.refl h,Nat.le_refl _,fun ρ a w w0 rest Q A R hn=>?_⟩
  exact Ou ho (g2 ρ a A.size (fun d _ hd=>A.slot d hd)) (hn ρ _ w (Ext.refl _ ρ) (p2 ρ a undef A ⟨#[],rfl,trivial⟩) R)
 |true=>
  have e2:∀ k',IM true (AU P o.op) (Ce nt o.dst) cf ih t h k'=runK (AU P o.op) cf t h (fun v h=>DE (Ce nt o.dst) v t fun t=>ih t h k'):=fun _=>rfl
  rw[e2]at hk
  obtain⟨v,h',r1,r2,r3,r4,_⟩:=Dq P o cf hcf t h _ hk
  rw[r1]at hk
  obtain⟨t',p1,p2⟩:=Ko hk
  refine⟨t',h',fun k'=>by rw[e,g1,e2,r1,p1],r2,r3,fun ρ a w w0 rest Q A R hn=>?_⟩
  obtain⟨nx,w1,x1,x2⟩:=r4 ρ a w w0 (A.ops _) R
  exact Tw ho (g2 ρ a A.size (fun d _ hd=>A.slot d hd)) x1 x2 fun x w' ⟨ρ',y1,y2,y3⟩=>hn ρ' _ w' y1 (p2 ρ' a x (A.up y1.1) y2) y3
theorem S5 {P:Program} {cf:Bo} (hcf:Fb P cf) {nt:Nat} {ops:Array Oper} (bars:Nat->Bool):∀ (l:List Oper) (n:Nat),(ops.toList.drop n).take l.length=l->∀ (t:F) (h:H) (k:F->H->Bool),
 Bu cf (AO bars P nt ops.toList (AU P) n l) t h k=true->
 ∃ t' h',(∀ k',Bu cf (AO bars P nt ops.toList (AU P) n l) t h k'=k' t' h')/\Ak h h'/\B.val h.next<=B.val h'.next/\
  ∀ ρ a w w0 rest (Q:Exit->Act->World->Prop),CT ρ nt t a->Aw ρ h w w0->(∀ ρ' a' w',Ext h.floor ρ ρ'->CT ρ' nt t' a'->Aw ρ' h' w' w0->Gq P ops rest Q a' w')->
   Gq P ops (List.range' n l.length++rest) Q a w:=by
 intro l
 induction l with
 |nil=>intro n hl t h k hk;exact⟨t,h,fun _=>rfl,Ak.refl h,Nat.le_refl _,fun ρ a w w0 rest Q A R hq=>hq ρ a w (Ext.refl _ ρ) A R⟩
 |cons o l ih=>
  intro n hl t h k hk
  have e:∀ k',Bu cf (AO bars P nt ops.toList (AU P) n (o::l)) t h k'=
   KV ⟨BJ nt ops.toList o.guard,Ce nt o.dst,bars n,AU P o.op⟩ cf (Bu cf (AO bars P nt ops.toList (AU P) (n+1) l)) t h k':=fun _=>rfl
  rw[e]at hk
  have hn:ops[n]? =some o:=by
   have:ops.toList[n]? =some o:=by
    have:=congrArg (fun l=>l[0]?) hl
    simpa using this
   simpa using this
  obtain⟨t1,h1,a1,a2,a3,a4⟩:=hP hcf hn hk
  rw[a1]at hk
  have hl':(ops.toList.drop (n+1)).take l.length=l:=by
   have hd:ops.toList.drop n=o::ops.toList.drop (n+1):=by
    have h5:n<ops.toList.length:=by
     have:=(Array.getElem?_eq_some_iff.1 hn).1;simpa using this
    rw[List.drop_eq_getElem_cons h5]
    congr 1
    have:=(Array.getElem?_eq_some_iff.1 hn).2
    simpa using this
   rw[hd]at hl
   simpa using hl
  obtain⟨t2,h2,b1,b2,b3,b4⟩:=ih (n+1) hl' t1 h1 k hk
  refine⟨t2,h2,fun k'=>by rw[e,a1,b1],Ak.trans a2 a3 b2,Nat.le_trans a3 b3,fun ρ a w w0 rest Q A R hq=>?_⟩
  rw[List.length_cons,List.range'_succ,List.cons_append]
  exact a4 ρ a w w0 _ Q A R fun ρ' a' w' l1 A' R'=>b4 ρ' a' w' w0 rest Q A' R' fun ρ'' a'' w'' l2 A'' R''=>hq ρ'' a'' w'' (Ext.trans l1 (by rw[<-a2.1];exact l2)) A'' R''
theorem Lc:∀ {l:List Oper} {n k:Nat},Hz n l=some k->∃ j,k=n+j/\j<l.length
 |[],n,k,h=>by cases h
 |o::r,n,k,h=>by
  have h':(match isComm o.op with|true=>some n|false=>Hz (n+1) r)=some k:=h
  cases hc:isComm o.op with
  |true=>rw[hc]at h';cases h';exact⟨0,rfl,by simp⟩
  |false=>
   rw[hc]at h'
   obtain⟨j,e,hj⟩:=Lc h'
   exact⟨j+1,by omega,by simpa using hj⟩
theorem NX {P:Program} {cf:Bo} (hcf:Fb P cf) {nt id:Nat} {ops:Array Oper} {n:Nat} {dst:Option Tmp} {op:Op} {e1:TypeId} {e2:String} {e3:Array Edge} (hn:ops[n]? =some ⟨dst,op,e1,e2,e3,none⟩)
 (hcm:SE P ⟨dst,op,e1,e2,e3,none⟩ (Vc (JO P op))) {t:F} {h:H} {k:X->F->H->Bool}
 (hk:(Bu cf (AO (fun _=>true) P nt ops.toList (AU P) 0 (ops.toList.take n)) t h fun t h=>Vc (JO P op) t h fun v h=>DE (Ce nt dst) v t fun t=>Bu cf (AO (fun _=>true) P nt ops.toList (AU P) (n+1) (ops.toList.drop (n+1))) t h (Nz k))=true):
 ∃ t' h',(∀ k':X->F->H->Bool,(Bu cf (AO (fun _=>true) P nt ops.toList (AU P) 0 (ops.toList.take n)) t h fun t h=>Vc (JO P op) t h fun v h=>DE (Ce nt dst) v t fun t=>Bu cf (AO (fun _=>true) P nt ops.toList (AU P) (n+1) (ops.toList.drop (n+1))) t h (Nz k'))=k' .normal t' h')/\
  Ak h h'/\B.val h.next<=B.val h'.next/\D2 P nt (.region id ops false) t h .normal t' h':=by
 have hlt:n<ops.size:=(Array.getElem?_eq_some_iff.1 hn).1
 have hlen:(ops.toList.take n).length=n:=by simp;omega
 obtain⟨t1,h1,a1,a2,a3,a4⟩:=S5 hcf (nt:=nt) (ops:=ops) (fun _=>true) (ops.toList.take n) 0 (by simp) t h _ hk
 rw[a1]at hk
 obtain⟨v,h2,b1,b2,b3,b4⟩:=hcm t1 h1 _ hk
 rw[b1]at hk
 obtain⟨t2,c1,c2⟩:=Ko hk
 rw[c1]at hk
 obtain⟨t3,h3,d1,d2,d3,d4⟩:=S5 hcf (nt:=nt) (ops:=ops) (fun _=>true) (ops.toList.drop (n+1)) (n+1) (List.take_of_length_le (Nat.le_refl _)) t2 h2 _ hk
 refine⟨t3,h3,fun k'=>by rw[a1,b1,c1,d1];rfl,Ak.trans (Ak.trans a2 a3 b2) (Nat.le_trans a3 b3) d2,Nat.le_trans a3 (Nat.le_trans b3 d3),fun ρ a w w0 Q A R hQ=>?_⟩
 have hrange:List.range ops.size=List.range' 0 (ops.toList.take n).length++(n::(List.range' (n+1) (ops.toList.drop (n+1)).length++[])):=by
  rw[hlen,List.append_nil,<-List.range'_succ,List.range_eq_range']
  have:(ops.toList.drop (n+1)).length+1=ops.size-n:=by simp;omega
  rw[this]
  have h9:=List.range'_append_1 (s:=0) (m:=n) (n:=ops.size-n)
  rw[Nat.zero_add]at h9
  rw[h9]
  congr 1
  omega
 have main:Gq P ops (List.range ops.size) Q a w:=by
  rw[hrange]
  refine a4 ρ a w w0 _ Q A R fun ρ1 a1' w1 l1 A1 R1=>?_
  obtain⟨cases,bl,shp,x1,x2⟩:=b4 ρ1 a1' w1 w0 (A1.ops _) R1
  refine P6 hn (by simp[Region.wanted]) x1 x2 fun x w2 ⟨ρ2,y1,y2,y3⟩=>?_
  refine d4 ρ2 _ w2 w0 [] Q (c2 ρ2 a1' x (A1.up y1.1) y2) y3 fun ρ3 a3' w3 l3 A3 R3=>RK ?_
  exact hQ ρ3 a3' w3 (Ext.trans (Ext.trans l1 (by rw[<-a2.1];exact y1)) (by rw[<-a2.1,<-b2.1];exact l3)) A3 R3
 exact fun b k cs=>let ⟨e,a',w',q,r⟩:=main b k cs;⟨e,a',w',q,.of_steps (.one step_region) r⟩
def kz:CC->Bool
 |.region _=>true
 |.comm _ _ _ _=>true
 |.Bg _ _=>true
 |.bad=>true
 |_=>false
theorem Mv (P:Program) (nt:Nat) (ops:List Oper) (n:Nat):(∃ a b c d,EO P nt ops n=.comm a b c d)\/EO P nt ops n=.bad:=by
 unfold EO
 split
 ·exact .inl ⟨_,_,_,_,rfl⟩
 ·exact .inr rfl
theorem Fs (P:Program) (nt:Nat) (ops:List Oper):(Hz 0 ops=none/\Am P nt ops false=.region (AO (fun _=>true) P nt ops (AU P) 0 ops))\/(∃ a b c d,Am P nt ops false=.comm a b c d)\/Am P nt ops false=.bad:=by
 cases hc:Hz 0 ops with
 |none=>exact .inl ⟨rfl,by simp only[Am,hc]⟩
 |some n=>
  have e:Am P nt ops false=EO P nt ops n:=by simp only[Am,hc]
  rw[e]
  exact .inr (Mv P nt ops n)
theorem H6 {P:Program} {nt:Nat} {ops:List Oper} {draw:Bool} {cc:CC} (h:Am P nt ops draw=cc) (hc:kz cc=false):False:=by
 cases draw with
 |false=>
  rcases Fs P nt ops with⟨_,e⟩|⟨_,_,_,_,e⟩|e<;>(rw[e]at h;subst h;cases hc)
 |true=>
  unfold Am at h
  simp only at h
  split at h<;>(subst h;cases hc)
/--a region in its own order -/
theorem Ue {P:Program} {nt:Nat} {ops:List Oper} {draw:Bool} {l:List CO} (h:Am P nt ops draw=.region l):draw=false/\l=AO (fun _=>true) P nt ops (AU P) 0 ops:=by
 cases draw with
 |false=>
  rcases Fs P nt ops with⟨_,e⟩|⟨_,_,_,_,e⟩|e
  ·rw[e]at h;cases h;exact⟨rfl,rfl⟩
  ·rw[e]at h;cases h
  ·rw[e]at h;cases h
 |true=>
  unfold Am at h
  simp only at h
  split at h<;>cases h
/--.. in a drawn one -/
theorem I2 {P:Program} {nt:Nat} {ops:List Oper} {draw:Bool} {l:List CO} {ch:Option (List Nat×List (Nat×List Nat))} (h:Am P nt ops draw=.Bg l ch):
 draw=true/\Bx ops=true/\CC.Bg (AO (CI P ops (CS ops [])) P nt ops (AU P) 0 ops) (Eo P (CI P ops (CS ops [])) (CS ops []) ops)=.Bg l ch:=by
 cases draw with
 |false=>
  rcases Fs P nt ops with⟨_,e⟩|⟨_,_,_,_,e⟩|e<;>(rw[e]at h;cases h)
 |true=>
  unfold Am at h
  simp only at h
  split at h
  ·rename_i hd;exact⟨rfl,hd,h⟩
  ·cases h
end Go.Ev
namespace Go.Ev
open Go
variable [Jo]
inductive Reach (ops:List Oper):Nat->Nat->Prop
 |one {j:Nat} {o:Oper} {e:Edge}:ops[j]? =some o->e∈o.after.toList->Region.binds .any e=true->Reach ops j e.on
 |more {j:Nat} {o:Oper} {e:Edge} {i:Nat}:ops[j]? =some o->e∈o.after.toList->Region.binds .any e=true->Reach ops e.on i->Reach ops j i
theorem Kx (done:List Nat):∀ (l:List Edge) (acc i:Nat),Nat.testBit (Ng done l acc) i=true->
 Nat.testBit acc i=true\/∃ e∈l,Region.binds .any e=true/\(i=e.on\/Nat.testBit ((done[e.on]?).getD 0) i=true)
 |[],acc,i,h=>.inl h
 |e::r,acc,i,h=>by
  unfold Ng at h
  cases hb:Region.binds .any e with
  |false=>
   rw[hb]at h
   rcases Kx done r acc i h with h|⟨e',h1,h2,h3⟩
   ·exact .inl h
   ·exact .inr ⟨e',by simp[h1],h2,h3⟩
  |true=>
   rw[hb]at h
   rcases Kx done r _ i h with h|⟨e',h1,h2,h3⟩
   ·have h':Nat.testBit ((acc|||2 ^ e.on)|||(done[e.on]?).getD 0) i=true:=h
    rw[Nat.testBit_or,Nat.testBit_or,Nat.testBit_two_pow]at h'
    simp only[Bool.or_eq_true,decide_eq_true_eq]at h'
    rcases h' with(h'|h')|h'
    ·exact .inl h'
    ·exact .inr ⟨e,by simp,hb,.inl h'.symm⟩
    ·exact .inr ⟨e,by simp,hb,.inr h'⟩
   ·exact .inr ⟨e',by simp[h1],h2,h3⟩
theorem Iw (ops:List Oper):∀ (l:List Oper) (done:List Nat),ops.drop done.length=l->(∀ j i,Nat.testBit ((done[j]?).getD 0) i=true->Reach ops j i)->
 ∀ j i,Nat.testBit (((CS l done)[j]?).getD 0) i=true->Reach ops j i
 |[],done,_,h=>h
 |o::l,done,hl,h=>by
  unfold CS
  refine Iw ops l _ ?_ ?_
  ·rw[List.length_append,<-List.drop_drop,hl];rfl
  ·intro j i hj
   have ho:ops[done.length]? =some o:=by
    have:=congrArg (fun l=>l[0]?) hl
    simpa using this
   by_cases hjl:j<done.length
   ·rw[List.getElem?_append_left hjl]at hj
    exact h j i hj
   ·by_cases hje:j=done.length
    ·subst hje
     simp at hj
     rcases Kx done _ _ _ hj with h0|⟨e,h1,h2,h3⟩
     ·simp at h0
     ·rcases h3 with rfl|h3
      ·exact .one ho h1 h2
      ·exact .more ho h1 h2 (h _ _ h3)
    ·rw[List.getElem?_eq_none (by simp;omega)]at hj
     simp at hj
theorem FM:∀ (l:List Oper) (n:Nat),Ep n l=true->∀ (k:Nat) o,l[k]? =some o->∀ e∈o.after.toList,Region.binds .any e=true->e.on<n+k
 |[],n,h,k,o,hk,e,he,hb=>by simp at hk
 |o'::l,n,h,k,o,hk,e,he,hb=>by
  unfold Ep at h
  simp only[Bool.and_eq_true,List.all_eq_true]at h
  cases k with
  |zero=>
   simp at hk
   subst hk
   have:=h.1 e he
   simp only[hb,Bool.not_true,Bool.false_or]at this
   exact Nat.le_of_ble_eq_true this
  |succ k=>
   have:=FM l (n+1) h.2 k o (by simpa using hk) e he hb
   omega
theorem Reach.lt {ops:List Oper} (hu:Ep 0 ops=true) {j i:Nat} (h:Reach ops j i):i<j:=by
 induction h with
 |one h1 h2 h3=>have:=FM ops 0 hu _ _ h1 _ h2 h3;omega
 |more h1 h2 h3 h4 ih=>have:=FM ops 0 hu _ _ h1 _ h2 h3;omega
def Cl (listed:Array Bool) (i:Nat):Prop:=listed.getD i false=true
def Closed (ops:List Oper) (listed:Array Bool):Prop:=∀ (j:Nat) o,ops[j]? =some o->Cl listed j->∀ e∈o.after.toList,Region.binds .any e=true->Cl listed e.on
theorem Reach.VZ {ops:List Oper} {listed:Array Bool} (hc:Closed ops listed) {j i:Nat} (h:Reach ops j i):(∀ o,ops[j]? =some o->∀ e∈o.after.toList,Region.binds .any e=true->Cl listed e.on)->Cl listed i:=by
 induction h with
 |one h1 h2 h3=>intro hr;exact hr _ h1 _ h2 h3
 |more h1 h2 h3 h4 ih=>intro hr;exact ih fun o ho e he hb=>hc _ _ ho (hr _ h1 _ h2 h3) e he hb
theorem Dn {a b:List Nat} (h:Kz a b=true) {x:Nat} (hx:x∈a) (hy:x∈b):False:=by
 unfold Kz at h
 rw[List.all_eq_true]at h
 have:=h x hx
 rw[List.all_eq_true]at this
 have:=this x hy
 simp at this
theorem Mn {ops:List Oper} {i:Nat} {o:Oper} (h:ops[i]? =some o):(o,i)∈ops.zipIdx:=by
 rw[List.mem_zipIdx_iff_getElem?];exact h
theorem J2 {ops:List Oper} (h:Bx ops=true) {i j:Nat} {oi oj:Oper} (hi:ops[i]? =some oi) (hj:ops[j]? =some oj) (hij:i<j):Reach ops j i\/HU ops oi oj=true:=by
 simp only[Bx,Bool.and_eq_true,List.all_eq_true]at h
 have hp:=h.2.2 (oi,i) (Mn hi) (oj,j) (Mn hj)
 unfold Tr at hp
 simp only[Bool.or_eq_true]at hp
 rcases hp with hp|hp|hp
 ·have:=Nat.le_of_ble_eq_true hp;omega
 ·exact .inl (Iw ops ops [] rfl (fun j i h=>by simp at h) j i hp)
 ·exact .inr hp
theorem KG {P:Program} {ops:List Oper} {i j:Nat} {oj:Oper} (hb:CI P ops (CS ops []) i=true) (hj:ops[j]? =some oj) (hs:still P oj.op=false) (hij:i≠j):Reach ops j i\/Reach ops i j:=by
 unfold CI at hb
 cases hi:ops[i]? with
 |none=>rw[hi]at hb;cases hb
 |some oi=>
  rw[hi]at hb
  simp only[TD,Bool.and_eq_true,List.all_eq_true]at hb
  have:=hb.2 (oj,j) (Mn hj)
  simp only[hs,Bool.false_or,Bool.or_eq_true]at this
  rcases this with h|h|h
  ·exact absurd (Nat.eq_of_beq_eq_true h) hij
  ·exact .inl (Iw ops ops [] rfl (fun j i h=>by simp at h) j i h)
  ·exact .inr (Iw ops ops [] rfl (fun j i h=>by simp at h) i j h)
theorem LB {P:Program} {ops:List Oper} {i:Nat} {oi:Oper} (hb:CI P ops (CS ops []) i=true) (hi:ops[i]? =some oi):still P oi.op=false:=by
 unfold CI at hb
 rw[hi]at hb
 simp only[TD,Bool.and_eq_true]at hb
 simpa using hb.1
def BF.below (ρ:BF) (n:B):BF:=fun id g=>if B.val id<B.val n then ρ id g else none
theorem BF.DK {ρ:BF} {n id:B} {g:Nat} {L:Loc} (h:ρ.below n id g=some L):ρ id g=some L/\B.val id<B.val n:=by
 unfold BF.below at h
 split at h
 ·exact⟨h,by assumption⟩
 ·cases h
theorem BF.Cv {ρ:BF} {n id:B} {g:Nat} {L:Loc} (h:ρ id g=some L) (hn:B.val id<B.val n):ρ.below n id g=some L:=by
 unfold BF.below;rw[if_pos hn];exact h
theorem Aw.Uk {ρ:BF} {h h':H} {w w0:World} (R:Aw ρ h w w0) (hg:∀ id g L,ρ id g=some L->h'.heap.get id=h.heap.get id) (hn:B.val h.next<=B.val h'.next) (hf:h'.floor=h.floor):Aw ρ h' w w0:=by
 refine⟨fun id g L hL=>?_,fun id g L hL=>Nat.lt_of_lt_of_le (R.ids _ _ _ hL) hn,R.sep,by rw[hf];exact Nat.le_trans R.Kg hn,R.IH,fun id g L hL hfl=>R.up _ _ _ hL (by rw[<-hf];exact hfl),R.tp,R.os,R.out,R.I1,R.mp.of (BF.le_refl ρ) fun id L Af h1 h2 _ _=>⟨h1,(hg _ _ _ h1).symm.trans h2,rfl⟩,R.Mu.of fun id g L Af h1 h2 _ _=>⟨h1,(hg _ _ _ h1).symm.trans h2,rfl⟩⟩
 obtain⟨Af,a1,a2⟩:=R.loc _ _ _ hL
 exact⟨Af,(hg _ _ _ hL).trans a1,a2⟩
theorem Aw.congr {ρ ρ':BF} {h:H} {w w0:World} (R:Aw ρ h w w0) (he:∀ id g,ρ' id g=ρ id g):Aw ρ' h w w0:=by
 have:ρ'=ρ:=by funext id g;exact he id g
 rw[this];exact R
theorem Aw.Wb {ρ:BF} {h:H} {w w0:World} (R:Aw ρ h w w0):Aw ρ (A4 h) w w:=by
 obtain⟨n,f,hp⟩:=h
 exact⟨R.loc,R.ids,R.sep,Nat.le_refl _,fun _ _=>rfl,fun id g L hL hf=>absurd (R.ids _ _ _ hL) (Nat.not_lt.2 hf),rfl,rfl,rfl,Nat.le_refl _,R.mp,R.Mu⟩
/--the IH blocks,and new ones beside them -/
theorem Aw.merge {ρ1 ρ2 ρ3:BF} {h h2:H} {w w' w0:World} (A:Aw ρ1 h w w0) (hB:Aw ρ2 h2 w' w) (h13:ρ1.le ρ3) (h23:ρ2.le ρ3)
 (h3:∀ id g L,ρ3 id g=some L->ρ1 id g=some L\/(ρ2 id g=some L/\B.val h2.floor<=B.val id/\B.val id<B.val h.next/\h.heap.get id=h2.heap.get id)):Aw ρ3 h w' w0:=by
 have A':=A.grow (w':=w') hB.IH hB.I1 hB.tp hB.os hB.out
 refine⟨fun id g L hL=>?_,fun id g L hL=>?_,fun id g L id' g' L' hL hL' hbb=>?_,A.Kg,A'.IH,fun id g L hL hf=>?_,A'.tp,A'.os,A'.out,A'.I1,fun id L Af h1 hb2 kc h3'=>?_,fun id g L Af ob h1 hb2 hg h3' h5'=>?_⟩
 ·rcases h3 _ _ _ hL with h1|⟨h1,_,_,hh⟩
  ·obtain⟨Af,a1,a2,a3,a4,a5,a6,a7⟩:=A'.loc _ _ _ h1
   refine⟨Af,a1,a2,a3,a4,a5,a6,fun hm=>?_⟩
   obtain⟨c,el,b1,b2,b3,b4⟩:=a7 hm
   refine⟨c,el,b1,b2,b3,fun i i1 i2=>?_⟩
   obtain⟨v,x,d1,d2,d3⟩:=b4 i i1 i2
   exact⟨v,x,d1,d2,At.up h13 _ _ d3⟩
  ·obtain⟨Af,a1,a2,a3,a4,a5,a6,a7⟩:=hB.loc _ _ _ h1
   refine⟨Af,hh.trans a1,a2,a3,a4,a5,a6,fun hm=>?_⟩
   obtain⟨c,el,b1,b2,b3,b4⟩:=a7 hm
   refine⟨c,el,b1,b2,b3,fun i i1 i2=>?_⟩
   obtain⟨v,x,d1,d2,d3⟩:=b4 i i1 i2
   exact⟨v,x,d1,d2,At.up h23 _ _ d3⟩
 ·rcases h3 _ _ _ hL with h1|⟨h1,_,h4,_⟩
  ·exact A.ids _ _ _ h1
  ·exact h4
 ·rcases h3 _ _ _ hL with h1|⟨h1,f1,_,_⟩<;>rcases h3 _ _ _ hL' with h2'|⟨h2',f2,_,_⟩
  ·exact A.sep _ _ _ _ _ _ h1 h2' hbb
  ·obtain⟨_,_,_,a3,_⟩:=A.loc _ _ _ h1
   have:=hB.up _ _ _ h2' f2
   omega
  ·obtain⟨_,_,_,a3,_⟩:=A.loc _ _ _ h2'
   have:=hB.up _ _ _ h1 f1
   omega
  ·exact hB.sep _ _ _ _ _ _ h1 h2' hbb
 ·rcases h3 _ _ _ hL with h1|⟨h1,f1,_,_⟩
  ·exact A.up _ _ _ h1 hf
  ·exact Nat.le_trans A.I1 (hB.up _ _ _ h1 f1)
 ·rcases h3 _ _ _ h1 with h4|⟨h4,_,_,hh⟩
  ·obtain⟨o,q1,q2⟩:=A'.mp id L Af h4 hb2 kc h3'
   exact⟨o,q1,q2.up h13⟩
  ·obtain⟨o,q1,q2⟩:=hB.mp id L Af h4 (hh.symm.trans hb2) kc h3'
   exact⟨o,q1,q2.up h23⟩
 ·rcases h3 _ _ _ h1 with h4|⟨h4,_,_,hh⟩
  ·exact A'.Mu id g L Af ob h4 hb2 hg h3' h5'
  ·exact hB.Mu id g L Af ob h4 (hh.symm.trans hb2) hg h3' h5'
def L9 (nt:Nat) (ops:List Oper) (o:Oper) (ρ:BF) (t:F) (a:Act):Prop:=a.tmps.size=nt/\∀ q∈looks ops o,q<512->At ρ (B2 (AV q) t) (a.tmps.getD q undef)
theorem HN {nt:Nat} {ops:List Oper} {o:Oper} {ρ:BF} {t:F} {a:Act} (h:L9 nt ops o ρ t a):El ρ t a o.op.operands.toList:=by
 intro x hx
 cases x with
 |tmp q=>
  show At ρ (oV (match Nat.ble (q+1) 512 with|true=>.t (AV q)|false=>.c .u) t) _
  cases hn:Nat.ble (q+1) 512 with
  |true=>exact h.2 q (by simp only[looks,List.mem_append,List.mem_flatMap];exact .inr ⟨_,hx,by simp[slotsOf]⟩) (Nat.le_of_ble_eq_true hn)
  |false=>trivial
 |const v=>exact Dj ρ v
 |global g=>trivial
 |func f=>exact⟨#[],rfl,trivial⟩
structure BK (P:Program) (nt:Nat) (ops:Array Oper) (i:Nat) (o:Oper) (Gv:Bool) (t t':F) (h h':H):Prop where
 dst:∀ q,o.dst=some q->q<nt/\q<512
 rest:∀ q,q<512->o.dst≠some q->B2 (AV q) t'=B2 (AV q) t
 calm:still P o.op=true->h'=h
 ex:∃ v h2,(∀ q,o.dst=some q->B2 (AV q) t'=v)/\Ak (if Gv then h else A4 h) h2/\B.val h.next<=B.val h2.next/\h'=(if Gv then h2 else CK h h2)/\
  (∀ ρ a w wb (K:Act->World->Prop) (Q:Exit->Act->World->Prop),L9 nt ops.toList o ρ t a->Aw ρ (if Gv then h else A4 h) w wb->
    (∀ ρ' x w',Ext (if Gv then h else A4 h).floor ρ ρ'->At ρ' v x->Aw ρ' h2 w' wb->K (a.put o.dst x) w')->wpOp P ops Q i K a w)/\
  (still P o.op=true->∀ ρ a w (K:Act->World->Prop) (Q:Exit->Act->World->Prop),L9 nt ops.toList o ρ t a->(∀ x,At ρ v x->K (a.put o.dst x) w)->wpOp P ops Q i K a w)
theorem GR {nt:Nat} {dst:Option Tmp} {v:V} {t:F} {k:F->Bool} (hk:DE (Ce nt dst) v t k=true):
 ∃ t',(∀ k',DE (Ce nt dst) v t k'=k' t')/\(∀ q,dst=some q->q<nt/\q<512)/\(∀ q,dst=some q->B2 (AV q) t'=v)/\∀ q,q<512->dst≠some q->B2 (AV q) t'=B2 (AV q) t:=by
 cases dst with
 |none=>exact⟨t,fun _=>rfl,(fun q h=>by cases h),(fun q h=>by cases h),fun _ _ _=>rfl⟩
 |some d=>
  have e:Ce nt (some d)=match Nat.ble (Nat.succ d) nt&&Nat.ble (Nat.succ d) 512 with|true=>.some (AV d)|false=>.bad:=rfl
  rw[e]at hk⊢
  cases hb:(Nat.ble (Nat.succ d) nt&&Nat.ble (Nat.succ d) 512)with
  |false=>rw[hb]at hk;exact Bool.noConfusion hk
  |true=>
   obtain⟨t',h1,h2,h3⟩:=GY (AV d) v t
   simp only[Bool.and_eq_true]at hb
   have hn:d<nt:=Nat.le_of_ble_eq_true hb.1
   have h5:d<512:=Nat.le_of_ble_eq_true hb.2
   refine⟨t',fun k'=>h1 k',(fun q h=>by cases h;exact⟨hn,h5⟩),(fun q h=>by cases h;exact h2),fun q hq hne=>h3 _ fun e=>hne (by rw[Iz hq h5 e])⟩
theorem Ck {P:Program} {ops:Array Oper} {Q:Exit->Act->World->Prop} {i:Nat} {o:Oper} {K:Act->World->Prop} {a:Act} {w:World} (hi:ops[i]? =some o)
 (h:if Region.wanted o (yielded ops a.tmps)then o.wp P a w K Q else K (a.put o.dst undef) w):wpOp P ops Q i K a w:=by
 unfold wpOp
 simp only[hi]
 split
 ·rename_i hw;simp only[hw,if_true]at h;exact .inl h
 ·rename_i hw;simp only[hw]at h;exact h
theorem Dv (h:H):(A4 h).next=h.next:=by cases h;rfl
theorem DX (h:H):(A4 h).floor=h.next:=by cases h;rfl
theorem Ms (h:H):(A4 h).heap=h.heap:=by cases h;rfl
theorem GP (h h2:H):CK h h2=⟨h2.next,h.floor,h2.heap⟩:=by cases h;cases h2;rfl
theorem Gm (h:H):CK h (A4 h)=h:=by cases h;rfl
theorem J1 {P:Program} {cf:Bo} (hcf:Fb P cf) {nt:Nat} {ops:Array Oper} {i:Nat} {o:Oper} (hi:ops[i]? =some o) {Gv:Bool} {t:F} {h:H} {ih:F->H->(F->H->Bool)->Bool} {k:F->H->Bool}
 (hk:Vd ⟨BJ nt ops.toList o.guard,Ce nt o.dst,Gv,AU P o.op⟩ cf ih t h k=true):
 ∃ t' h',(∀ k',Vd ⟨BJ nt ops.toList o.guard,Ce nt o.dst,Gv,AU P o.op⟩ cf ih t h k'=ih t' h' k')/\BK P nt ops i o Gv t t' h h':=by
 have e:∀ k',Vd ⟨BJ nt ops.toList o.guard,Ce nt o.dst,Gv,AU P o.op⟩ cf ih t h k'=CZ (BJ nt ops.toList o.guard) t fun b=>JJ b Gv (AU P o.op) (Ce nt o.dst) cf ih t h k':=fun _=>rfl
 rw[e]at hk
 obtain⟨b,g1,g2⟩:=HE hk
 rw[g1]at hk
 have hw:∀ ρ a,L9 nt ops.toList o ρ t a->Region.wanted o (yielded ops a.tmps)=b:=fun ρ a hl=>
  g2 ρ a hl.1 fun d hd h5=>hl.2 d (by simp only[looks,List.mem_append];exact .inl hd) h5
 cases b with
 |false=>
  have e2:∀ k',JJ false Gv (AU P o.op) (Ce nt o.dst) cf ih t h k'=DE (Ce nt o.dst) (.tu []) t fun t=>ih t h k':=by intro k';cases Gv<;>rfl
  rw[e2]at hk
  obtain⟨t',p1,p2,p3,p4⟩:=GR hk
  refine⟨t',h,fun k'=>by rw[e,g1,e2,p1],p2,p4,fun _=>rfl,.tu [],if Gv then h else A4 h,p3,Ak.refl _,by cases Gv<;>simp[Dv],by cases Gv<;>simp[Gm],fun ρ a w wb K Q hl R hK=>?_,fun _ ρ a w K Q hl hK=>?_⟩
  ·refine Ck hi ?_
   rw[hw ρ a hl]
   simp only[Bool.false_eq_true,if_false]
   exact hK ρ undef w (Ext.refl _ ρ) ⟨#[],rfl,trivial⟩ R
  ·refine Ck hi ?_
   rw[hw ρ a hl]
   simp only[Bool.false_eq_true,if_false]
   exact hK undef ⟨#[],rfl,trivial⟩
 |true=>
  cases Gv with
  |true=>
   have e2:∀ k',JJ true true (AU P o.op) (Ce nt o.dst) cf ih t h k'=runK (AU P o.op) cf t h (fun v h=>DE (Ce nt o.dst) v t fun t=>ih t h k'):=fun _=>rfl
   rw[e2]at hk
   obtain⟨v,h',r1,r2,r3,r4,r5⟩:=Dq P o cf hcf t h _ hk
   rw[r1]at hk
   obtain⟨t',p1,p2,p3,p4⟩:=GR hk
   refine⟨t',h',fun k'=>by rw[e,g1,e2,r1,p1],p2,p4,fun hs=>(r5 hs).1,v,h',p3,r2,r3,rfl,fun ρ a w wb K Q hl R hK=>?_,fun hs ρ a w K Q hl hK=>?_⟩
   ·refine Ck hi ?_
    rw[hw ρ a hl]
    simp only[if_true]
    obtain⟨nx,w1,x1,x2⟩:=r4 ρ a w wb (HN hl) R
    unfold Oper.wp
    rw[x1]
    exact x2.upon fun x w' ⟨ρ',y1,y2,y3⟩=>hK ρ' x w' y1 y2 y3
   ·refine Ck hi ?_
    rw[hw ρ a hl]
    simp only[if_true]
    obtain⟨x,x1,x2⟩:=(r5 hs).2 ρ a w (HN hl)
    unfold Oper.wp
    rw[x1]
    exact hK x x2
  |false=>
   have e2:∀ k',JJ true false (AU P o.op) (Ce nt o.dst) cf ih t h k'=runK (AU P o.op) cf t (A4 h) (fun v h2=>DE (Ce nt o.dst) v t fun t=>ih t (CK h h2) k'):=fun _=>rfl
   rw[e2]at hk
   obtain⟨v,h2,r1,r2,r3,r4,r5⟩:=Dq P o cf hcf t (A4 h) _ hk
   rw[r1]at hk
   obtain⟨t',p1,p2,p3,p4⟩:=GR hk
   refine⟨t',CK h h2,fun k'=>by rw[e,g1,e2,r1,p1],p2,p4,fun hs=>by rw[(r5 hs).1,Gm],v,h2,p3,r2,by rw[<-Dv];exact r3,rfl,fun ρ a w wb K Q hl R hK=>?_,fun hs ρ a w K Q hl hK=>?_⟩
   ·refine Ck hi ?_
    rw[hw ρ a hl]
    simp only[if_true]
    obtain⟨nx,w1,x1,x2⟩:=r4 ρ a w wb (HN hl) R
    unfold Oper.wp
    rw[x1]
    exact x2.upon fun x w' ⟨ρ',y1,y2,y3⟩=>hK ρ' x w' y1 y2 y3
   ·refine Ck hi ?_
    rw[hw ρ a hl]
    simp only[if_true]
    obtain⟨x,x1,x2⟩:=(r5 hs).2 ρ a w (HN hl)
    unfold Oper.wp
    rw[x1]
    exact hK x x2
theorem VP {P:Program} {cf:Bo} (hcf:Fb P cf) {nt:Nat} {ops:Array Oper} (bars:Nat->Bool):∀ (l:List Oper) (n:Nat),ops.toList.drop n=l->∀ (t:F) (h:H) (k:F->H->Bool),
 DU cf (AO bars P nt ops.toList (AU P) n l) t h k=true->
 ∃ (Ts:Nat->F) (Hs:Nat->H),Ts n=t/\Hs n=h/\(∀ k',DU cf (AO bars P nt ops.toList (AU P) n l) t h k'=k' (Ts (n+l.length)) (Hs (n+l.length)))/\
  ∀ (i:Nat) o,n<=i->ops[i]? =some o->BK P nt ops i o (bars i) (Ts i) (Ts (i+1)) (Hs i) (Hs (i+1)):=by
 intro l
 induction l with
 |nil=>
  intro n hl t h k hk
  refine⟨fun _=>t,fun _=>h,rfl,rfl,fun _=>rfl,fun i o hni hi=>?_⟩
  have:ops.toList[i]? =none:=by
   rw[List.getElem?_eq_none]
   have:=congrArg List.length hl
   simp at this
   simp;omega
  rw[show ops[i]? =ops.toList[i]? by simp,this]at hi
  cases hi
 |cons o l ih=>
  intro n hl t h k hk
  have hn:ops[n]? =some o:=by
   have:ops.toList[n]? =some o:=by
    have:=congrArg (fun l=>l[0]?) hl
    simpa using this
   simpa using this
  have e:∀ k',DU cf (AO bars P nt ops.toList (AU P) n (o::l)) t h k'=
   Vd ⟨BJ nt ops.toList o.guard,Ce nt o.dst,bars n,AU P o.op⟩ cf (DU cf (AO bars P nt ops.toList (AU P) (n+1) l)) t h k':=fun _=>rfl
  rw[e]at hk
  obtain⟨t1,h1,a1,a2⟩:=J1 hcf hn hk
  rw[a1]at hk
  have hl':ops.toList.drop (n+1)=l:=by rw[<-List.drop_drop,hl];rfl
  obtain⟨Ts,Hs,b1,b2,b3,b4⟩:=ih (n+1) hl' t1 h1 k hk
  refine⟨fun i=>if i=n then t else Ts i,fun i=>if i=n then h else Hs i,by simp,by simp,fun k'=>?_,fun i oi hni hi=>?_⟩
  ·rw[e,a1,b3]
   have e1:n+(o::l).length=n+1+l.length:=by simp;omega
   rw[e1]
   simp only[show ¬n+1+l.length=n by omega,if_false]
  ·by_cases hin:i=n
   ·subst hin
    rw[hn]at hi
    cases hi
    simp only[if_true,show ¬i+1=i by omega,if_false,b1,b2]
    exact a2
   ·simp only[hin,if_false,show ¬i+1=n by omega]
    exact b4 i oi (by omega) hi
section
variable {P:Program} {nt:Nat} {ops:Array Oper} {Ts:Nat->F} {Hs:Nat->H}
theorem BF.UQ (ρ:BF) (n:B):(ρ.below n).le ρ:=fun _ _ _ h=>(BF.DK h).1
theorem BF.Hx {ρ ρ':BF} (h:ρ.le ρ') {m n:B} (hn:B.val m<=B.val n):(ρ.below m).le (ρ'.below n):=
 fun _ _ _ hL=>BF.Cv (h _ _ _ (BF.DK hL).1) (Nat.lt_of_lt_of_le (BF.DK hL).2 hn)
def BF.or (ρ ρ':BF):BF:=fun id g=>(ρ id g).or (ρ' id g)
structure Inv (P:Program) (nt:Nat) (ops:Array Oper) (Ts:Nat->F) (Hs:Nat->H) (ρ0:BF) (w0:World) (listed:Array Bool) (a:Act) (w:World) (ρ:BF) (s M:Nat):Prop where
 size:a.tmps.size=nt
 defers:a.defers=Jo.d
 ext:Ext (Hs 0).floor ρ0 ρ
 Ci:∀ q,q<512->∃ m,m<=ops.size/\(m=0\/∃ j o,m=j+1/\ops[j]? =some o/\o.dst=some q)/\(∀ (j:Nat) o,ops[j]? =some o->o.dst=some q->(j<m↔Cl listed j))/\At (ρ.below (Hs m).next) (B2 (AV q) (Ts m)) (a.tmps.getD q undef)
 sM:s<=M
 MN:M<=ops.size
 lo:∀ (j:Nat) o,ops[j]? =some o->still P o.op=false->j<s->Cl listed j
 hi:∀ (j:Nat) o,ops[j]? =some o->still P o.op=false->M<=j->¬Cl listed j
 Qa:∀ j,s<=j->j<M->CI P ops.toList (CS ops.toList []) j=false
 iZ:M=ops.size\/CI P ops.toList (CS ops.toList []) M=true
 tV:∀ id g L,ρ id g=some L->B.val id<B.val (Hs M).next
 au:∀ id g L,ρ id g=some L->∀ (j:Nat) o,ops[j]? =some o->¬Cl listed j->¬(B.val (Hs j).next<=B.val id/\B.val id<B.val (Hs (j+1)).next)
 heap:∀ m,s<=m->m<=M->Aw (ρ.below (Hs m).next) (Hs m) w w0
variable (hd:Bx ops.toList=true) (hst:∀ (i:Nat) o,ops[i]? =some o->BK P nt ops i o (CI P ops.toList (CS ops.toList []) i) (Ts i) (Ts (i+1)) (Hs i) (Hs (i+1)))
include hd hst
omit hd in
theorem M3 {i:Nat} {o:Oper} (hi:ops[i]? =some o):B.val (Hs i).next<=B.val (Hs (i+1)).next/\(Hs (i+1)).floor=(Hs i).floor:=by
 obtain⟨v,h2,e1,e2,e3,e4,_⟩:=(hst i o hi).ex
 cases hb:CI P ops.toList (CS ops.toList []) i with
 |true=>rw[hb]at e2 e4;simp only[if_true]at e2 e4;rw[e4];exact⟨e3,e2.1⟩
 |false=>rw[hb]at e4;simp only[Bool.false_eq_true,if_false]at e4;rw[e4,GP];exact⟨e3,rfl⟩
omit hd in
theorem QH {i:Nat} {o:Oper} (hi:ops[i]? =some o) (hb:CI P ops.toList (CS ops.toList []) i=false) {id:B} (hid:B.val id<B.val (Hs i).next):(Hs (i+1)).heap.get id=(Hs i).heap.get id:=by
 obtain⟨v,h2,e1,e2,e3,e4,_⟩:=(hst i o hi).ex
 rw[hb]at e2 e4
 simp only[Bool.false_eq_true,if_false]at e2 e4
 rw[e4,GP]
 have:=e2.2 (by rw[DX,Dv];exact Nat.le_refl _) id (by rw[DX];exact hid)
 rw[Ms]at this
 exact this
omit hd in
theorem CJ:∀ {m n:Nat},m<=n->n<=ops.size->B.val (Hs m).next<=B.val (Hs n).next:=by
 intro m n hmn
 induction n with
 |zero=>intro _;have:m=0:=by omega
        subst this;exact Nat.le_refl _
 |succ n ih=>
  intro hn
  by_cases h:m<=n
  ·have hi:ops[n]? =some (ops[n]'(by omega)):=by simp
   exact Nat.le_trans (ih h (by omega)) (M3 hst hi).1
  ·have:m=n+1:=by omega
   subst this;exact Nat.le_refl _
omit hd in
theorem HX:∀ {n:Nat},n<=ops.size->(Hs n).floor=(Hs 0).floor:=by
 intro n
 induction n with
 |zero=>intro _;rfl
 |succ n ih=>
  intro hn
  have hi:ops[n]? =some (ops[n]'(by omega)):=by simp
  exact(M3 hst hi).2.trans (ih (by omega))
omit hd in
theorem Ic {s M:Nat} (hMN:M<=ops.size) (hnb:∀ j,s<=j->j<M->CI P ops.toList (CS ops.toList []) j=false):∀ {m n:Nat},s<=m->m<=n->n<=M->∀ {id:B},B.val id<B.val (Hs m).next->(Hs n).heap.get id=(Hs m).heap.get id:=by
 intro m n hsm hmn
 induction n with
 |zero=>intro _ id _;have:m=0:=by omega
        subst this;rfl
 |succ n ih=>
  intro hn id hid
  by_cases h:m<=n
  ·have hi:ops[n]? =some (ops[n]'(by omega)):=by simp
   rw[QH hst hi (hnb n (by omega) (by omega)) (Nat.lt_of_lt_of_le hid (CJ hst h (by omega)))]
   exact ih h (by omega) hid
  ·have:m=n+1:=by omega
   subst this;rfl
omit hd in
theorem Lb:∀ {m n q:Nat},q<512->m<=n->n<=ops.size->(∀ (j:Nat) o,ops[j]? =some o->o.dst=some q->m<=j->j<n->False)->B2 (AV q) (Ts n)=B2 (AV q) (Ts m):=by
 intro m n q hq hmn
 induction n with
 |zero=>intro _ _;have:m=0:=by omega
        subst this;rfl
 |succ n ih=>
  intro hn hno
  by_cases h:m<=n
  ·have hi:ops[n]? =some (ops[n]'(by omega)):=by simp
   rw[(hst n _ hi).rest q hq (fun e=>hno n _ hi e h (by omega))]
   exact ih h (by omega) fun j o hj hd h1 h2=>hno j o hj hd h1 (by omega)
  ·have:m=n+1:=by omega
   subst this;rfl
/--of an operation that may come up,whoever writes what it looks at,or writes where it writes,has come up if and only if it stands ahead of it -/
theorem ahead {listed:Array Bool} (hc:Closed ops.toList listed) {i:Nat} {oi:Oper} (hi:ops[i]? =some oi) (hni:¬Cl listed i) (hr:∀ e∈oi.after.toList,Region.binds .any e=true->Cl listed e.on)
 {q:Nat} (hq:q∈looks ops.toList oi\/oi.dst=some q) {j:Nat} {oj:Oper} (hj:ops[j]? =some oj) (hdj:oj.dst=some q) (hji:j≠i):j<i↔Cl listed j:=by
 have hi':ops.toList[i]? =some oi:=by simpa using hi
 have hj':ops.toList[j]? =some oj:=by simpa using hj
 have hqj:q∈Is oj:=by simp[Is,hdj]
 constructor
 ·intro hlt
  rcases J2 hd hj' hi' hlt with h|h
  ·exact h.VZ hc fun o ho e he hb=>by rw[hi']at ho;cases ho;exact hr e he hb
  ·simp only[HU,Bool.and_eq_true]at h
   rcases hq with hq|hq
   ·exact(Dn h.2.1 hqj hq).elim
   ·exact(Dn h.1 hqj (by simp[Is,hq])).elim
 ·intro hin
  refine Decidable.byContradiction fun hlt=>?_
  have hlt':i<j:=by omega
  rcases J2 hd hi' hj' hlt' with h|h
  ·exact hni (h.VZ hc fun o ho e he hb=>hc j o ho hin e he hb)
  ·simp only[HU,Bool.and_eq_true]at h
   rcases hq with hq|hq
   ·exact(Dn h.2.2 hqj hq).elim
   ·exact(Dn h.1 (by simp[Is,hq]) hqj).elim
theorem Vj {listed:Array Bool} (hc:Closed ops.toList listed) {ρ0:BF} {w0:World} {a:Act} {w:World} {ρ:BF} {s M:Nat} (I:Inv P nt ops Ts Hs ρ0 w0 listed a w ρ s M)
 {i:Nat} {oi:Oper} (hi:ops[i]? =some oi) (hni:¬Cl listed i) (hr:∀ e∈oi.after.toList,Region.binds .any e=true->Cl listed e.on):L9 nt ops.toList oi (ρ.below (Hs i).next) (Ts i) a:=by
 refine⟨I.size,fun q hq h5=>?_⟩
 obtain⟨m,hm,hm0,hw,hv⟩:=I.Ci q h5
 have hiN:i<ops.size:=(Array.getElem?_eq_some_iff.1 hi).1
 have key:∀ (j:Nat) o,ops[j]? =some o->o.dst=some q->j≠i->(j<m↔j<i):=fun j o hj hdj hji=>(hw j o hj hdj).trans (ahead hd hst hc hi hni hr (.inl hq) hj hdj hji).symm
 have self:oi.dst=some q->¬i<m:=fun hdi h=>hni ((hw i oi hi hdi).1 h)
 have hmi:m<=i:=by
  rcases hm0 with h0|⟨j,o,rfl,hj,hdj⟩
  ·omega
  ·by_cases hji:j=i
   ·subst hji
    rw[hi]at hj;cases hj
    exact absurd (Nat.lt_succ_self j) (self hdj)
   ·have:=(key j o hj hdj hji).1 (Nat.lt_succ_self j)
    omega
 have:B2 (AV q) (Ts i)=B2 (AV q) (Ts m):=by
  refine Lb hst h5 hmi (by omega) fun j o hj hdj h1 h2=>?_
  have:=(key j o hj hdj (by omega)).2 h2
  omega
 rw[this];exact At.up (BF.Hx (BF.le_refl ρ) (CJ hst hmi (by omega))) _ _ hv
/--the Ci behind an operation -/
theorem JV {listed:Array Bool} (hc:Closed ops.toList listed) {ρ0:BF} {w0:World} {a:Act} {w:World} {ρ:BF} {s M:Nat} (I:Inv P nt ops Ts Hs ρ0 w0 listed a w ρ s M)
 {i:Nat} {oi:Oper} (hi:ops[i]? =some oi) (hni:¬Cl listed i) (hr:∀ e∈oi.after.toList,Region.binds .any e=true->Cl listed e.on) {listed':Array Bool} (hl:∀ j,Cl listed' j↔(Cl listed j\/j=i))
 {ρ':BF} (hle:ρ.le ρ') {x:Value} (hx:∀ q,oi.dst=some q->At (ρ'.below (Hs (i+1)).next) (B2 (AV q) (Ts (i+1))) x):
 ∀ q,q<512->∃ m,m<=ops.size/\(m=0\/∃ j o,m=j+1/\ops[j]? =some o/\o.dst=some q)/\(∀ (j:Nat) o,ops[j]? =some o->o.dst=some q->(j<m↔Cl listed' j))/\At (ρ'.below (Hs m).next) (B2 (AV q) (Ts m)) ((a.put oi.dst x).tmps.getD q undef):=by
 intro q h5
 have hiN:i<ops.size:=(Array.getElem?_eq_some_iff.1 hi).1
 by_cases hdq:oi.dst=some q
 ·refine⟨i+1,by omega,.inr ⟨i,oi,rfl,hi,hdq⟩,fun j o hj hdj=>?_,?_⟩
  ·rw[hl]
   by_cases hji:j=i
   ·subst hji;constructor
    ·intro _;exact .inr rfl
    ·intro _;omega
   ·have:=ahead hd hst hc hi hni hr (.inr hdq) hj hdj hji
    constructor
    ·intro h;exact .inl (this.1 (by omega))
    ·rintro(h|h)
     ·have:=this.2 h;omega
     ·exact absurd h hji
  ·have hqn:=((hst i oi hi).dst q hdq).1
   have:((a.put oi.dst x).tmps.getD q undef)=x:=by rw[hdq];simp[Act.put,I.size,hqn]
   rw[this];exact hx q hdq
 ·obtain⟨m,hm,hm0,hw,hv⟩:=I.Ci q h5
  refine⟨m,hm,hm0,fun j o hj hdj=>?_,?_⟩
  ·rw[hl,hw j o hj hdj]
   constructor
   ·intro h;exact .inl h
   ·rintro(h|h)
    ·exact h
    ·subst h;rw[hi]at hj;cases hj;exact absurd hdj hdq
  ·have:((a.put oi.dst x).tmps.getD q undef)=a.tmps.getD q undef:=by
    cases hdst:oi.dst with
    |none=>rfl
    |some d=>
     simp only[Act.put,Array.getD_eq_getD_getElem?,Array.getElem?_setIfInBounds]
     rw[if_neg (fun e=>hdq (by rw[hdst,e]))]
   rw[this];exact At.up (BF.Hx hle (Nat.le_refl _)) _ _ hv
theorem K2 (n:Nat):∀ k,n+k=ops.size->∃ M,n<=M/\M<=ops.size/\(∀ j,n<=j->j<M->CI P ops.toList (CS ops.toList []) j=false)/\(M=ops.size\/CI P ops.toList (CS ops.toList []) M=true):=by
 intro k
 induction k generalizing n with
 |zero=>intro h;exact⟨n,Nat.le_refl _,by omega,fun j h1 h2=>by omega,.inl (by omega)⟩
 |succ k ih=>
  intro h
  cases hb:CI P ops.toList (CS ops.toList []) n with
  |true=>exact⟨n,Nat.le_refl _,by omega,fun j h1 h2=>by omega,.inr hb⟩
  |false=>
   obtain⟨M,m1,m2,m3,m4⟩:=ih (n+1) (by omega)
   exact⟨M,by omega,m2,fun j h1 h2=>by
    by_cases hj:j=n
    ·rw[hj];exact hb
    ·exact m3 j (by omega) h2,m4⟩
/--WHICHEVER OPERATION COMES UP,what is known stays known. -/
theorem TX {listed:Array Bool} (hc:Closed ops.toList listed) {ρ0:BF} {w0:World} {a:Act} {w:World} {ρ:BF} {s M:Nat} (I:Inv P nt ops Ts Hs ρ0 w0 listed a w ρ s M)
 {i:Nat} {oi:Oper} (hi:ops[i]? =some oi) (hni:¬Cl listed i) (hr:∀ e∈oi.after.toList,Region.binds .any e=true->Cl listed e.on) {listed':Array Bool} (hl:∀ j,Cl listed' j↔(Cl listed j\/j=i))
 {K:Act->World->Prop} {Q:Exit->Act->World->Prop} (hK:∀ a' w' ρ' s' M',Inv P nt ops Ts Hs ρ0 w0 listed' a' w' ρ' s' M'->K a' w'):wpOp P ops Q i K a w:=by
 have hi':ops.toList[i]? =some oi:=by simpa using hi
 have hiN:i<ops.size:=(Array.getElem?_eq_some_iff.1 hi).1
 have hlook:=Vj hd hst hc I hi hni hr
 have S:=hst i oi hi
 obtain⟨v,h2,e1,e2,e3,e4,e5,e6⟩:=S.ex
 have hdf:∀ x,(a.put oi.dst x).defers=Jo.d:=fun x=>by cases oi.dst<;>exact I.defers
 have hsz:∀ x,(a.put oi.dst x).tmps.size=nt:=fun x=>by cases oi.dst<;>simp[Act.put,I.size]
 cases hs:still P oi.op with
 |true=>
  refine e6 hs (ρ.below (Hs i).next) a w K Q hlook fun x hx=>hK _ w ρ s M ?_
  refine⟨hsz x,hdf x,I.ext,JV hd hst hc I hi hni hr hl (BF.le_refl ρ) (fun q hq=>by rw[e1 q hq,S.calm hs];exact hx),I.sM,I.MN,fun j o hj h1 h2=>(hl j).2 (.inl (I.lo j o hj h1 h2)),fun j o hj h1 h2 h3=>?_,I.Qa,I.iZ,I.tV,
   fun id g L hL j o hj hnj=>I.au id g L hL j o hj fun h=>hnj ((hl j).2 (.inl h)),I.heap⟩
  rcases(hl j).1 h3 with h3|h3
  ·exact I.hi j o hj h1 h2 h3
  ·subst h3;rw[hi]at hj;cases hj;rw[hs]at h1;cases h1
 |false=>
  have hsi:s<=i:=Nat.le_of_not_lt fun h=>hni (I.lo i oi hi hs h)
  cases hb:CI P ops.toList (CS ops.toList []) i with
  |true=>
   --a Gv:it is the next one
   have hiM:i=M:=by
    rcases Nat.lt_trichotomy i M with h|h|h
    ·rw[I.Qa i hsi h]at hb;cases hb
    ·exact h
    ·rcases I.iZ with h'|h'
     ·omega
     ·have hMl:ops[M]? =some (ops[M]'(by omega)):=Array.getElem?_eq_getElem _
      have hloud:=LB h' ((Array.getElem?_toList (xs:=ops) (i:=M)).trans hMl)
      rcases KG (oj:=oi) h' hi' hs (by omega)with hR|hR
      ·exact absurd (hR.VZ hc fun o ho e he hbb=>by rw[hi']at ho;cases ho;exact hr e he hbb) (I.hi M _ hMl hloud (Nat.le_refl _))
      ·have:=hR.lt (by simp only[Bx,Bool.and_eq_true]at hd;exact hd.1);omega
   subst hiM
   rw[hb]at e2 e4 e5
   simp only[if_true]at e2 e4 e5
   have hup:Ep 0 ops.toList=true:=by simp only[Bx,Bool.and_eq_true]at hd;exact hd.1
   have hbelow:∀ id g L,ρ id g=some L->ρ.below (Hs i).next id g=some L:=fun id g L hL=>BF.Cv hL (I.tV _ _ _ hL)
   refine e5 (ρ.below (Hs i).next) a w w0 K Q hlook (I.heap i hsi (Nat.le_refl _)) fun ρ' x w' hE hx hR=>?_
   obtain⟨M',m1,m2,m3,m4⟩:=K2 hd hst (i+1) (ops.size-(i+1)) (by omega)
   have hle:ρ.le ρ':=fun id g L hL=>hE.1 _ _ _ (hbelow _ _ _ hL)
   rw[<-e4]at hR
   refine hK _ w' ρ' (i+1) M' ⟨hsz x,hdf x,I.ext.trans ⟨hle,fun id g L hL=>?_⟩,JV hd hst hc I hi hni hr hl hle (fun q hq=>by rw[e1 q hq];exact At.up (fun id g L hL=>BF.Cv hL (hR.ids _ _ _ hL)) _ _ hx),m1,m2,fun j o hj h1 h2=>?_,fun j o hj h1 h2 h3=>?_,m3,m4,
    fun id g L hL=>Nat.lt_of_lt_of_le (hR.ids _ _ _ hL) (CJ hst m1 m2),fun id g L hL j o hj hnj hbd=>?_,fun m h1 h2=>?_⟩
   ·rcases hE.2 _ _ _ hL with h|h
    ·exact .inl (BF.DK h).1
    ·right;rw[<-HX hst (n:=i) (by omega)];exact h
   ·rw[hl]
    by_cases hji:j=i
    ·exact .inr hji
    ·left
     have hj':ops.toList[j]? =some o:=by simpa using hj
     rcases KG hb hj' h1 (fun e=>hji e.symm)with hR'|hR'
     ·have:=hR'.lt hup;omega
     ·exact hR'.VZ hc fun o' ho e he hbb=>by rw[hi']at ho;cases ho;exact hr e he hbb
   ·have hj':ops.toList[j]? =some o:=by simpa using hj
    rcases(hl j).1 h3 with h3|h3
    ·exact I.hi j o hj h1 (by omega) h3
    ·omega
   ·by_cases hso:still P o.op=true
    ·rw[(hst j o hj).calm hso]at hbd;omega
    ·have hso':still P o.op=false:=by simpa using hso
     have hji:i<j:=by
      refine Nat.lt_of_not_le fun hle'=>hnj ((hl j).2 ?_)
      by_cases hji:j=i
      ·exact .inr hji
      ·left
       have hj':ops.toList[j]? =some o:=by simpa using hj
       rcases KG hb hj' hso' (fun e=>hji e.symm)with hR'|hR'
       ·have:=hR'.lt hup;omega
       ·exact hR'.VZ hc fun o' ho e he hbb=>by rw[hi']at ho;cases ho;exact hr e he hbb
     have hjN:j<ops.size:=(Array.getElem?_eq_some_iff.1 hj).1
     have:=CJ hst (m:=i+1) (n:=j) (by omega) (by omega)
     have:=hR.ids _ _ _ hL
     omega
   ·have hmN:m<=ops.size:=by omega
    have hR2:Aw ρ' (Hs m) w' w0:=hR.Uk (fun id g L hL=>Ic hst m2 m3 (Nat.le_refl _) h1 h2 (hR.ids _ _ _ hL)) (CJ hst h1 hmN) ((HX hst hmN).trans (HX hst (by omega)).symm)
    exact hR2.congr fun id g=>by
     cases hL:ρ' id g with
     |none=>unfold BF.below;rw[hL];split<;>rfl
     |some L=>exact BF.Cv hL (hR2.ids _ _ _ hL)
  |false=>
   --it reads,and lays new blocks
   have hiM:i<M:=by
    refine Nat.lt_of_not_le fun hle=>?_
    rcases I.iZ with h'|h'
    ·omega
    ·have hne:i≠M:=fun e=>by rw[e,h']at hb;cases hb
     have hMN:M<ops.size:=by omega
     have hMl:ops[M]? =some (ops[M]'hMN):=Array.getElem?_eq_getElem _
     have hloud:=LB h' ((Array.getElem?_toList (xs:=ops) (i:=M)).trans hMl)
     rcases KG (oj:=oi) h' hi' hs (fun e=>hne e.symm)with hR|hR
     ·exact absurd (hR.VZ hc fun o ho e he hbb=>by rw[hi']at ho;cases ho;exact hr e he hbb) (I.hi M _ hMl hloud (Nat.le_refl _))
     ·have:=hR.lt (by simp only[Bx,Bool.and_eq_true]at hd;exact hd.1);omega
   rw[hb]at e2 e4 e5
   simp only[Bool.false_eq_true,if_false]at e2 e4 e5
   have hRi:=I.heap i hsi (Nat.le_of_lt hiM)
   have hnxt:(Hs (i+1)).next=h2.next:=by rw[e4,GP]
   have hhp:(Hs (i+1)).heap=h2.heap:=by rw[e4,GP]
   have hfl2:h2.floor=(Hs i).next:=by rw[e2.1,DX]
   refine e5 (ρ.below (Hs i).next) a w w K Q hlook hRi.Wb fun ρ' x w' hE hx hR=>?_
   rw[DX]at hE
   have hids:∀ id g L,ρ' id g=some L->B.val id<B.val (Hs (i+1)).next:=fun id g L hL=>by rw[hnxt];exact hR.ids _ _ _ hL
   have hle:ρ.le (ρ.or ρ'):=fun id g L hL=>by unfold BF.or;rw[hL];rfl
   have hle':ρ'.le (ρ.or ρ'):=fun id g L hL=>by
    unfold BF.or
    cases hr0:ρ id g with
    |none=>exact hL
    |some L0=>
     rcases hE.2 _ _ _ hL with h|h
     ·have:=(BF.DK h).1
      rw[hr0]at this;exact this
     ·exact absurd ⟨h,hids _ _ _ hL⟩ (I.au id g L0 hr0 i oi hi hni)
   have hnew:∀ id g L,ρ.or ρ' id g=some L->ρ id g=some L\/(ρ id g=none/\ρ' id g=some L/\B.val (Hs i).next<=B.val id):=fun id g L hL=>by
    unfold BF.or at hL
    cases hr0:ρ id g with
    |some L0=>rw[hr0]at hL;left;exact hL
    |none=>
     rw[hr0]at hL
     have hL':ρ' id g=some L:=hL
     rcases hE.2 _ _ _ hL' with h|h
     ·have:=(BF.DK h).1
      rw[hr0]at this;cases this
     ·exact .inr ⟨rfl,hL',h⟩
   have hup:ρ'.le ((ρ.or ρ').below (Hs (i+1)).next):=fun id g L hL=>BF.Cv (hle' _ _ _ hL) (hids _ _ _ hL)
   have hMN:=I.MN
   refine hK _ w' (ρ.or ρ') s M ⟨hsz x,hdf x,I.ext.trans ⟨hle,fun id g L hL=>?_⟩,JV hd hst hc I hi hni hr hl hle (fun q hq=>by rw[e1 q hq];exact At.up hup _ _ hx),I.sM,I.MN,
    fun j o hj h1 h2=>(hl j).2 (.inl (I.lo j o hj h1 h2)),fun j o hj h1 h2 h3=>?_,I.Qa,I.iZ,fun id g L hL=>?_,fun id g L hL j o hj hnj hbd=>?_,fun m h1 h2=>?_⟩
   ·rcases hnew _ _ _ hL with h|⟨_,_,h⟩
    ·exact .inl h
    ·right
     have:=hRi.Kg
     rw[HX hst (n:=i) (by omega)]at this
     omega
   ·rcases(hl j).1 h3 with h3|h3
    ·exact I.hi j o hj h1 h2 h3
    ·omega
   ·rcases hnew _ _ _ hL with h|⟨_,h,_⟩
    ·exact I.tV _ _ _ h
    ·exact Nat.lt_of_lt_of_le (hids _ _ _ h) (CJ hst (by omega) hMN)
   ·rcases hnew _ _ _ hL with h|⟨_,h,hge⟩
    ·exact I.au id g L h j o hj (fun h'=>hnj ((hl j).2 (.inl h'))) hbd
    ·have hjN:j<ops.size:=(Array.getElem?_eq_some_iff.1 hj).1
     have hlt:=hids _ _ _ h
     rcases Nat.lt_trichotomy j i with hji|hji|hji
     ·have:=CJ hst (m:=j+1) (n:=i) (by omega) (by omega)
      omega
     ·exact hnj ((hl j).2 (.inr hji))
     ·have:=CJ hst (m:=i+1) (n:=j) (by omega) (by omega)
      omega
   ·by_cases hmi:m<=i
    ·have hg:=(I.heap m h1 h2).grow (w':=w') hR.IH hR.I1 hR.tp hR.os hR.out
     refine hg.congr fun id g=>?_
     unfold BF.below
     split
     ·rename_i hlt
      unfold BF.or
      cases hr0:ρ id g with
      |some L0=>rfl
      |none=>
       cases hr1:ρ' id g with
       |none=>rfl
       |some L=>
        rcases hE.2 _ _ _ hr1 with h|h
        ·have:=(BF.DK h).1
         rw[hr0]at this;cases this
        ·have:=CJ hst hmi (by omega)
         omega
     ·rfl
    ·have hmN:m<=ops.size:=by omega
     refine Aw.merge (I.heap m h1 h2) hR (BF.Hx hle (Nat.le_refl _)) (fun id g L hL=>BF.Cv (hle' _ _ _ hL) (Nat.lt_of_lt_of_le (hids _ _ _ hL) (CJ hst (by omega) hmN))) fun id g L hL=>?_
     obtain⟨hL1,hL2⟩:=BF.DK hL
     rcases hnew _ _ _ hL1 with h|⟨_,h,hge⟩
     ·exact .inl (BF.Cv h hL2)
     ·refine .inr ⟨h,by rw[hfl2];exact hge,hL2,?_⟩
      rw[<-hhp]
      exact Ic hst hMN I.Qa (by omega) (by omega) h2 (hids _ _ _ h)
theorem OL {listed:Array Bool} {ρ0:BF} {w0:World} {a:Act} {w:World} {ρ:BF} {s M:Nat} (I:Inv P nt ops Ts Hs ρ0 w0 listed a w ρ s M) (hall:∀ i,i<ops.size->Cl listed i):
 Ext (Hs 0).floor ρ0 ρ/\CT ρ nt (Ts ops.size) a/\Aw ρ (Hs ops.size) w w0:=by
 have hM:M=ops.size:=by
  rcases I.iZ with h|h
  ·exact h
  ·by_cases hMN:M<ops.size
   ·have hMl:ops[M]? =some (ops[M]'hMN):=Array.getElem?_eq_getElem _
    have hloud:=LB h ((Array.getElem?_toList (xs:=ops) (i:=M)).trans hMl)
    exact absurd (hall M hMN) (I.hi M _ hMl hloud (Nat.le_refl _))
   ·have:=I.MN;omega
 subst hM
 refine⟨I.ext,⟨I.defers,I.size,fun q h5=>?_⟩,(I.heap _ I.sM (Nat.le_refl _)).congr fun id g=>?_⟩
 ·obtain⟨m,hm,hm0,hw,hv⟩:=I.Ci q h5
  have:B2 (AV q) (Ts ops.size)=B2 (AV q) (Ts m):=Lb hst h5 hm (Nat.le_refl _) fun j o hj hdj h1 h2=>by
   have:=(hw j o hj hdj).2 (hall j h2)
   omega
  rw[this];exact At.up (BF.UQ _ _) _ _ hv
 ·cases hr0:ρ id g with
  |none=>unfold BF.below;rw[hr0];split<;>rfl
  |some L=>exact(BF.Cv hr0 (I.tV _ _ _ hr0)).symm
def left (n:Nat) (listed:Array Bool):Nat:=((List.range n).filter fun i=>!listed.getD i false).length
omit hd hst in
theorem HK {α:Type} (p p':α->Bool):∀ (l:List α),(∀ x∈l,p' x=true->p x=true)->(∃ x∈l,p x=true/\p' x=false)->(l.filter p').length<(l.filter p).length
 |[],_,h=>by obtain⟨x,hx,_⟩:=h;cases hx
 |y::l,h1,h2=>by
  have hle:(l.filter p').length<=(l.filter p).length:=by
   have hsub:∀ (l:List α),(∀ x∈l,p' x=true->p x=true)->(l.filter p').length<=(l.filter p).length:=by
    intro l
    induction l with
    |nil=>intro _;exact Nat.le_refl _
    |cons z l ih=>
     intro h
     have:=ih fun x hx=>h x (by simp[hx])
     rw[List.filter_cons,List.filter_cons]
     cases hp':p' z with
     |true=>rw[h z (by simp) hp'];simp;exact this
     |false=>cases p z<;>simp<;>omega
   exact hsub l fun x hx=>h1 x (by simp[hx])
  rw[List.filter_cons,List.filter_cons]
  obtain⟨x,hx,hp,hp'⟩:=h2
  rcases List.mem_cons.1 hx with rfl|hx
  ·rw[hp,hp'];simp;omega
  ·have ih:=HK p p' l (fun x hx=>h1 x (by simp[hx])) ⟨x,hx,hp,hp'⟩
   cases hq':p' y with
   |true=>rw[h1 y (by simp) hq'];simp;exact ih
   |false=>cases p y<;>simp<;>omega
theorem VD {ρ0:BF} {w0:World} {Q:Exit->Act->World->Prop} (hQ:∀ ρ a w,Ext (Hs 0).floor ρ0 ρ->CT ρ nt (Ts ops.size) a->Aw ρ (Hs ops.size) w w0->Q .normal a w):
 ∀ (fuel:Nat) (listed:Array Bool) (a:Act) (w:World) (ρ:BF) (s M:Nat),listed.size=ops.size->left ops.size listed<=fuel->Closed ops.toList listed->Inv P nt ops Ts Hs ρ0 w0 listed a w ρ s M->
  wpAny P .any ops Q fuel listed a w:=by
 have hup:Ep 0 ops.toList=true:=by simp only[Bx,Bool.and_eq_true]at hd;exact hd.1
 intro fuel
 induction fuel with
 |zero=>
  intro listed a w ρ s M hsz hlf hc I
  have hall:∀ i,i<ops.size->Cl listed i:=by
   intro i hi
   have h0:(List.range ops.size).filter (fun i=>!listed.getD i false)=[]:=List.eq_nil_of_length_eq_zero (by unfold left at hlf;omega)
   have:=List.filter_eq_nil_iff.1 h0 i (List.mem_range.2 hi)
   unfold Cl
   simpa using this
  obtain⟨h1,h2,h3⟩:=OL hd hst I hall
  refine⟨?_,hQ ρ a w h1 h2 h3⟩
  rw[List.eq_nil_iff_forall_not_mem]
  intro j hj
  obtain⟨hj1,o,hj2,_⟩:=mem_ready.1 hj
  have hjN:j<ops.size:=(Array.getElem?_eq_some_iff.1 hj2).1
  have:=hall j hjN
  unfold Cl at this
  have hjl:j<listed.size:=by omega
  simp[hjl]at this hj1
  rw[this]at hj1;cases hj1
 |succ fuel ih=>
  intro listed a w ρ s M hsz hlf hc I
  constructor
  ·intro hready
   by_cases hall:∀ i,i<ops.size->Cl listed i
   ·obtain⟨h1,h2,h3⟩:=OL hd hst I hall
    exact hQ ρ a w h1 h2 h3
   · --the least that has not come up may come up
     exfalso
     have hex:∃ i,i<ops.size/\¬Cl listed i:=by
      refine Classical.byContradiction fun h=>hall fun i hi=>Classical.byContradiction fun h'=>h ⟨i,hi,h'⟩
     have hleast:∃ i,(i<ops.size/\¬Cl listed i)/\∀ j,j<i->¬(j<ops.size/\¬Cl listed j):=by
      obtain⟨i,hi⟩:=hex
      induction i using Nat.strongRecOn with
      |_ i ihh=>
       by_cases h:∃ j,j<i/\(j<ops.size/\¬Cl listed j)
       ·obtain⟨j,hj,hj'⟩:=h
        exact ihh j hj hj'
       ·exact⟨i,hi,fun j hj h'=>h ⟨j,hj,h'⟩⟩
     obtain⟨i,⟨hi1,hi2⟩,hi3⟩:=hleast
     have hio:ops[i]? =some (ops[i]'hi1):=Array.getElem?_eq_getElem _
     have:i∈Region.ready .any ops listed:=by
      rw[mem_ready]
      refine⟨?_,_,hio,fun e he hb=>?_⟩
      ·have hil:i<listed.size:=by omega
       unfold Cl at hi2
       simp[hil]at hi2⊢
       exact hi2
      ·have hlt:=FM ops.toList 0 hup i _ ((Array.getElem?_toList (xs:=ops) (i:=i)).trans hio) e (by simpa using he) hb
       have:=Classical.byContradiction fun h=>hi3 e.on (by omega) ⟨by omega,h⟩
       exact this
     rw[hready]at this;cases this
  ·intro i hi
   obtain⟨hi1,o,hi2,hi3⟩:=mem_ready.1 hi
   have hiN:i<ops.size:=(Array.getElem?_eq_some_iff.1 hi2).1
   have hil:i<listed.size:=by omega
   have hni:¬Cl listed i:=by
    unfold Cl
    simp[hil]at hi1⊢
    exact hi1
   have hr:∀ e∈o.after.toList,Region.binds .any e=true->Cl listed e.on:=fun e he hb=>hi3 e (by simpa using he) hb
   have hl:∀ j,Cl (listed.setIfInBounds i true) j↔(Cl listed j\/j=i):=by
    intro j
    unfold Cl
    rw[Array.getD_eq_getD_getElem?,Array.getD_eq_getD_getElem?,Array.getElem?_setIfInBounds]
    by_cases hji:i=j
    ·subst hji;simp[hil]
    ·rw[if_neg hji]
     constructor
     ·intro h;exact .inl h
     ·rintro(h|h)
      ·exact h
      ·exact absurd h.symm hji
   refine TX hd hst hc I hi2 hni hr hl fun a' w' ρ' s' M' I'=>ih _ a' w' ρ' s' M' (by simpa using hsz) ?_ ?_ I'
   ·have:left ops.size (listed.setIfInBounds i true)<left ops.size listed:=by
     unfold left
     refine HK _ _ _ (fun x _ hx=>?_) ⟨i,List.mem_range.2 hiN,?_,?_⟩
     ·have:=hl x
      unfold Cl at this
      cases hx1:listed.getD x false with
      |false=>rfl
      |true=>rw[this.2 (.inl hx1)]at hx;exact hx
     ·unfold Cl at hni
      simpa using hni
     ·have:=(hl i).2 (.inr rfl)
      unfold Cl at this
      rw[this];rfl
    omega
   ·intro j oj hj hjin e he hb
    rw[hl]at hjin⊢
    left
    rcases hjin with h|h
    ·exact hc j oj hj h e he hb
    ·subst h
     have:ops.toList[j]? =some o:=(Array.getElem?_toList (xs:=ops) (i:=j)).trans hi2
     rw[hj]at this;cases this
     exact hr e he hb
theorem NZ:∀ {n:Nat},n<=ops.size->Ak (Hs 0) (Hs n):=by
 intro n
 induction n with
 |zero=>intro _;exact Ak.refl _
 |succ n ih=>
  intro hn
  have hi:ops[n]? =some (ops[n]'(by omega)):=Array.getElem?_eq_getElem _
  refine Ak.trans (ih (by omega)) (CJ hst (Nat.zero_le _) (by omega)) ?_
  obtain⟨v,h2,e1,e2,e3,e4,_⟩:=(hst n _ hi).ex
  cases hb:CI P ops.toList (CS ops.toList []) n with
  |true=>rw[hb]at e2 e4;simp only[if_true]at e2 e4;rw[e4];exact e2
  |false=>exact⟨(M3 hst hi).2,fun hf id hid=>QH hst hi hb (Nat.lt_of_lt_of_le hid hf)⟩
end
/--A REGION THAT DRAWS ITS ORDER:what the evaluator makes of it,in the text's order,is what the model makes of it,in any. -/
theorem Ni {P:Program} (hm:P.follows .mixedOrders=true) {cf:Bo} (hcf:Fb P cf) {nt:Nat} {ops:Array Oper} (hd:Bx ops.toList=true) {t:F} {h:H} {k:F->H->Bool}
 (hk:DU cf (AO (CI P ops.toList (CS ops.toList [])) P nt ops.toList (AU P) 0 ops.toList) t h k=true):
 ∃ t' h',(∀ k',DU cf (AO (CI P ops.toList (CS ops.toList [])) P nt ops.toList (AU P) 0 ops.toList) t h k'=k' t' h')/\Ak h h'/\B.val h.next<=B.val h'.next/\
  ∀ ρ a w w0 (id:Nat) (Q:Exit->Act->World->Prop),CT ρ nt t a->Aw ρ h w w0->(∀ ρ' a' w',Ext h.floor ρ ρ'->CT ρ' nt t' a'->Aw ρ' h' w' w0->Q .normal a' w')->(Code.region id ops true).wp P Q a w:=by
 obtain⟨Ts,Hs,b1,b2,b3,b4⟩:=VP hcf _ ops.toList 0 (by simp) t h k hk
 have hst:∀ (i:Nat) o,ops[i]? =some o->BK P nt ops i o (CI P ops.toList (CS ops.toList []) i) (Ts i) (Ts (i+1)) (Hs i) (Hs (i+1)):=fun i o hi=>b4 i o (Nat.zero_le _) hi
 have hlen:0+ops.toList.length=ops.size:=by simp
 rw[hlen]at b3
 refine⟨Ts ops.size,Hs ops.size,b3,by rw[<-b2];exact NZ hd hst (Nat.le_refl _),by rw[<-b2];exact CJ hst (Nat.zero_le _) (Nat.le_refl _),fun ρ a w w0 id Q A R hQ=>?_⟩
 refine wp_region_any hm ?_
 have hR1:Aw ρ h {w with drawn:=w.drawn+1} w0:=R.dr _
 obtain⟨M,m1,m2,m3,m4⟩:=K2 (P:=P) (nt:=nt) (Ts:=Ts) (Hs:=Hs) hd hst 0 ops.size (by omega)
 have hno:∀ j,¬Cl (Array.replicate ops.size false) j:=by
  intro j;unfold Cl
  by_cases hj:j<ops.size<;>simp[hj]
 refine VD hd hst (ρ0:=ρ) (w0:=w0) (fun ρ' a' w' h1 h2 h3=>hQ ρ' a' w' (by rw[<-b2];exact h1) h2 h3) ops.size _ a _ ρ 0 M (by simp) (by unfold left;exact Nat.le_trans (List.length_filter_le _ _) (by simp)) (fun j o hj hin=>absurd hin (hno j)) ?_
 refine⟨A.size,A.defers,Ext.refl _ _,fun q h5=>⟨0,Nat.zero_le _,.inl rfl,fun j o hj hdj=>⟨fun h=>by omega,fun h=>absurd h (hno j)⟩,?_⟩,Nat.zero_le _,m2,fun j o hj h1 h2=>by omega,fun j o hj h1 h2=>hno j,m3,m4,
  fun i g L hL=>?_,fun i g L hL j o hj hnj hbd=>?_,fun m h1 h2=>?_⟩
 ·rw[b1,b2]
  exact At.up (fun i g L hL=>BF.Cv hL (R.ids _ _ _ hL)) _ _ (A.slot q h5)
 ·have:=R.ids _ _ _ hL
  rw[<-b2]at this
  exact Nat.lt_of_lt_of_le this (CJ hst (Nat.zero_le _) m2)
 ·have:=R.ids _ _ _ hL
  rw[<-b2]at this
  have hjN:j<ops.size:=(Array.getElem?_eq_some_iff.1 hj).1
  have:=CJ hst (m:=0) (n:=j) (Nat.zero_le _) (by omega)
  omega
 ·have hmN:m<=ops.size:=by omega
  rw[<-b2]at hR1
  have hR2:Aw ρ (Hs m) {w with drawn:=w.drawn+1} w0:=hR1.Uk (fun i g L hL=>Ic hst m2 m3 (Nat.le_refl _) h1 h2 (hR1.ids _ _ _ hL)) (CJ hst h1 hmN) (HX hst hmN)
  exact hR2.congr fun i g=>by
   cases hL:ρ i g with
   |none=>unfold BF.below;rw[hL];split<;>rfl
   |some L=>exact BF.Cv hL (hR2.ids _ _ _ hL)
end Go.Ev
namespace Go.Ev
open Go
variable [Jo]
section
variable {P:Program} {nt:Nat} {ops:Array Oper} {Ts:Nat->F}
theorem Tz (hd:Bx ops.toList=true) {listed:Array Bool} (hc:Closed ops.toList listed) {i:Nat} {oi:Oper} (hi:ops[i]? =some oi) (hni:¬Cl listed i) (hr:∀ e∈oi.after.toList,Region.binds .any e=true->Cl listed e.on)
 {q:Nat} (hq:q∈looks ops.toList oi\/oi.dst=some q) {j:Nat} {oj:Oper} (hj:ops[j]? =some oj) (hdj:oj.dst=some q) (hji:j≠i):j<i↔Cl listed j:=by
 have hi':ops.toList[i]? =some oi:=by simpa using hi
 have hj':ops.toList[j]? =some oj:=by simpa using hj
 have hqj:q∈Is oj:=by simp[Is,hdj]
 constructor
 ·intro hlt
  rcases J2 hd hj' hi' hlt with h|h
  ·exact h.VZ hc fun o ho e he hb=>by rw[hi']at ho;cases ho;exact hr e he hb
  ·simp only[HU,Bool.and_eq_true]at h
   rcases hq with hq|hq
   ·exact(Dn h.2.1 hqj hq).elim
   ·exact(Dn h.1 hqj (by simp[Is,hq])).elim
 ·intro hin
  refine Decidable.byContradiction fun hlt=>?_
  have hlt':i<j:=by omega
  rcases J2 hd hi' hj' hlt' with h|h
  ·exact hni (h.VZ hc fun o ho e he hb=>hc j o ho hin e he hb)
  ·simp only[HU,Bool.and_eq_true]at h
   rcases hq with hq|hq
   ·exact(Dn h.2.2 hqj hq).elim
   ·exact(Dn h.1 (by simp[Is,hq]) hqj).elim
/--what each operation leaves of the Ci -/
def ZY (nt:Nat) (ops:Array Oper) (Ts:Nat->F):Prop:=∀ (i:Nat) o,ops[i]? =some o->(∀ q,o.dst=some q->q<nt/\q<512)/\∀ q,q<512->o.dst≠some q->B2 (AV q) (Ts (i+1))=B2 (AV q) (Ts i)
theorem KL (hs:ZY nt ops Ts):∀ {m n q:Nat},q<512->m<=n->n<=ops.size->(∀ (j:Nat) o,ops[j]? =some o->o.dst=some q->m<=j->j<n->False)->B2 (AV q) (Ts n)=B2 (AV q) (Ts m):=by
 intro m n q hq hmn
 induction hmn with
 |refl=>intro _ _;rfl
 |@step k hk ih=>
  intro hN hno
  have ho:ops[k]? =some (ops[k]'(by omega)):=Array.getElem?_eq_getElem _
  rw[(hs k _ ho).2 q hq fun e=>hno k _ ho e hk (Nat.lt_succ_self _)]
  exact ih (by omega) fun j o hj hd h1 h2=>hno j o hj hd h1 (by omega)
def LM (ops:Array Oper) (Ts:Nat->F) (listed:Array Bool) (a:Act) (ρ:BF):Prop:=∀ q,q<512->∃ m,m<=ops.size/\(m=0\/∃ j o,m=j+1/\ops[j]? =some o/\o.dst=some q)/\(∀ (j:Nat) o,ops[j]? =some o->o.dst=some q->(j<m↔Cl listed j))/\At ρ (B2 (AV q) (Ts m)) (a.tmps.getD q undef)
theorem oc (hd:Bx ops.toList=true) (hs:ZY nt ops Ts) {listed:Array Bool} (hc:Closed ops.toList listed) {a:Act} {ρ:BF} (hsz:a.tmps.size=nt) (I:LM ops Ts listed a ρ)
 {i:Nat} {oi:Oper} (hi:ops[i]? =some oi) (hni:¬Cl listed i) (hr:∀ e∈oi.after.toList,Region.binds .any e=true->Cl listed e.on):L9 nt ops.toList oi ρ (Ts i) a:=by
 refine⟨hsz,fun q hq h5=>?_⟩
 obtain⟨m,hm,hm0,hw,hv⟩:=I q h5
 have hiN:i<ops.size:=(Array.getElem?_eq_some_iff.1 hi).1
 have key:∀ (j:Nat) o,ops[j]? =some o->o.dst=some q->j≠i->(j<m↔j<i):=fun j o hj hdj hji=>(hw j o hj hdj).trans (Tz hd hc hi hni hr (.inl hq) hj hdj hji).symm
 have self:oi.dst=some q->¬i<m:=fun hdi h=>hni ((hw i oi hi hdi).1 h)
 have hmi:m<=i:=by
  rcases hm0 with h0|⟨j,o,rfl,hj,hdj⟩
  ·omega
  ·by_cases hji:j=i
   ·subst hji
    rw[hi]at hj;cases hj
    exact absurd (Nat.lt_succ_self j) (self hdj)
   ·have:=(key j o hj hdj hji).1 (Nat.lt_succ_self j)
    omega
 have:B2 (AV q) (Ts i)=B2 (AV q) (Ts m):=by
  refine KL hs h5 hmi (by omega) fun j o hj hdj h1 h2=>?_
  have:=(key j o hj hdj (by omega)).2 h2
  omega
 rw[this];exact hv
theorem mD (hd:Bx ops.toList=true) (hs:ZY nt ops Ts) {listed:Array Bool} (hc:Closed ops.toList listed) {a:Act} {ρ:BF} (hsz:a.tmps.size=nt) (I:LM ops Ts listed a ρ)
 {i:Nat} {oi:Oper} (hi:ops[i]? =some oi) (hni:¬Cl listed i) (hr:∀ e∈oi.after.toList,Region.binds .any e=true->Cl listed e.on) {listed':Array Bool} (hl:∀ j,Cl listed' j↔(Cl listed j\/j=i))
 {ρ':BF} (hle:ρ.le ρ') {x:Value} (hx:∀ q,oi.dst=some q->At ρ' (B2 (AV q) (Ts (i+1))) x):LM ops Ts listed' (a.put oi.dst x) ρ':=by
 intro q h5
 have hiN:i<ops.size:=(Array.getElem?_eq_some_iff.1 hi).1
 by_cases hdq:oi.dst=some q
 ·refine⟨i+1,by omega,.inr ⟨i,oi,rfl,hi,hdq⟩,fun j o hj hdj=>?_,?_⟩
  ·rw[hl]
   by_cases hji:j=i
   ·subst hji;constructor
    ·intro _;exact .inr rfl
    ·intro _;omega
   ·have:=Tz hd hc hi hni hr (.inr hdq) hj hdj hji
    constructor
    ·intro h;exact .inl (this.1 (by omega))
    ·rintro(h|h)
     ·have:=this.2 h;omega
     ·exact absurd h hji
  ·have hqn:=((hs i oi hi).1 q hdq).1
   have:((a.put oi.dst x).tmps.getD q undef)=x:=by rw[hdq];simp[Act.put,hsz,hqn]
   rw[this];exact hx q hdq
 ·obtain⟨m,hm,hm0,hw,hv⟩:=I q h5
  refine⟨m,hm,hm0,fun j o hj hdj=>?_,?_⟩
  ·rw[hl,hw j o hj hdj]
   constructor
   ·intro h;exact .inl h
   ·rintro(h|h)
    ·exact h
    ·subst h;rw[hi]at hj;cases hj;exact absurd hdj hdq
  ·have:((a.put oi.dst x).tmps.getD q undef)=a.tmps.getD q undef:=by
    cases hdst:oi.dst with
    |none=>rfl
    |some d=>
     simp only[Act.put,Array.getD_eq_getD_getElem?,Array.getElem?_setIfInBounds]
     rw[if_neg (fun e=>hdq (by rw[hdst,e]))]
   rw[this];exact At.up hle _ _ hv
/--those of 'lo' stand in one row;all others leave memory alone,and make the same at each heap at which they may be done -/
theorem uJ (hd:Bx ops.toList=true) {Hs:Nat->H} {lo:Nat->Prop} (hs:ZY nt ops Ts) (hch:∀ i j,lo i->lo j->i<j->j<ops.size->Reach ops.toList j i)
 (hlo:∀ (i:Nat) o,lo i->ops[i]? =some o->BK P nt ops i o true (Ts i) (Ts (i+1)) (Hs i) (Hs (i+1))) (hsm:∀ i,i<ops.size->¬lo i->Hs (i+1)=Hs i)
 (hqt:∀ (i:Nat) o,¬lo i->ops[i]? =some o->(∃ g g',BK P nt ops i o true (Ts i) (Ts (i+1)) g g')/\(still P o.op=true\/∀ c,c<=ops.size->(∀ k,lo k->Reach ops.toList i k->k<c)->(∀ k,lo k->k<c->¬Reach ops.toList k i)->BK P nt ops i o true (Ts i) (Ts (i+1)) (Hs c) (Hs c)))
 {ρ0:BF} {w0:World} {Q:Exit->Act->World->Prop} (hQ:∀ ρ a w,Ext (Hs 0).floor ρ0 ρ->CT ρ nt (Ts ops.size) a->Aw ρ (Hs ops.size) w w0->Q .normal a w):
 ∀ (fuel:Nat) (listed:Array Bool) (a:Act) (w:World) (ρ:BF),listed.size=ops.size->left ops.size listed<=fuel->Closed ops.toList listed->a.tmps.size=nt->a.defers=Jo.d->Ext (Hs 0).floor ρ0 ρ->LM ops Ts listed a ρ->(∃ c,c<=ops.size/\(∀ k,k<ops.size->lo k->(Cl listed k↔k<c))/\Aw ρ (Hs c) w w0)->
  wpAny P .any ops Q fuel listed a w:=by
 have hup:Ep 0 ops.toList=true:=by simp only[Bx,Bool.and_eq_true]at hd;exact hd.1
 have same:∀ d c,c<=d->d<=ops.size->(∀ k,c<=k->k<d->¬lo k)->Hs d=Hs c:=by
  intro d
  induction d with
  |zero=>intro c h1 _ _;rw[Nat.le_zero.1 h1]
  |succ d ih=>
   intro c h1 h2 h3
   by_cases e:c=d+1
   ·rw[e]
   ·rw[hsm d (by omega) (h3 d (by omega) (by omega))]
    exact ih c (by omega) (by omega) fun k k1 k2=>h3 k k1 (by omega)
 have Kg:∀ c,c<=ops.size->(Hs c).floor=(Hs 0).floor:=by
  intro c
  induction c with
  |zero=>intro _;rfl
  |succ c ih=>
   intro hc
   rw[<-ih (by omega)]
   by_cases hl:lo c
   ·obtain⟨v,g,_,e2,_,e4,_⟩:=(hlo c _ hl (Array.getElem?_eq_getElem (show c<ops.size by omega))).ex
    simp only[if_true]at e2 e4
    rw[e4];exact e2.1
   ·rw[hsm c (by omega) hl]
 have done:∀ {listed:Array Bool} {a:Act} {w:World} {ρ:BF},(∀ i,i<ops.size->Cl listed i)->a.tmps.size=nt->a.defers=Jo.d->Ext (Hs 0).floor ρ0 ρ->LM ops Ts listed a ρ->(∃ c,c<=ops.size/\(∀ k,k<ops.size->lo k->(Cl listed k↔k<c))/\Aw ρ (Hs c) w w0)->Q .normal a w:=fun {listed a w ρ} hall hsz hdf hE I hp=>by
  obtain⟨c,c1,c2,c3⟩:=hp
  refine hQ ρ a w hE ⟨hdf,hsz,fun q h5=>?_⟩ (by rw[same ops.size c c1 (Nat.le_refl _) fun k k1 k2 hl=>by have:=(c2 k k2 hl).1 (hall k k2);omega];exact c3)
  obtain⟨m,hm,hm0,hw,hv⟩:=I q h5
  rw[KL hs h5 hm (Nat.le_refl _) fun j o hj hdj h1 h2=>by
   have:=(hw j o hj hdj).2 (hall j h2)
   omega]
  exact hv
 intro fuel
 induction fuel with
 |zero=>
  intro listed a w ρ hsz hlf hc ha hdf hE I hp
  have hall:∀ i,i<ops.size->Cl listed i:=by
   intro i hi
   have h0:(List.range ops.size).filter (fun i=>!listed.getD i false)=[]:=List.eq_nil_of_length_eq_zero (by unfold left at hlf;omega)
   have:=List.filter_eq_nil_iff.1 h0 i (List.mem_range.2 hi)
   unfold Cl
   simpa using this
  refine⟨?_,done hall ha hdf hE I hp⟩
  rw[List.eq_nil_iff_forall_not_mem]
  intro j hj
  obtain⟨hj1,o,hj2,_⟩:=mem_ready.1 hj
  have hjN:j<ops.size:=(Array.getElem?_eq_some_iff.1 hj2).1
  have:=hall j hjN
  unfold Cl at this
  have hjl:j<listed.size:=by omega
  simp[hjl]at this hj1
  rw[this]at hj1;cases hj1
 |succ fuel ih=>
  intro listed a w ρ hsz hlf hc ha hdf hE I hp
  constructor
  ·intro hready
   by_cases hall:∀ i,i<ops.size->Cl listed i
   ·exact done hall ha hdf hE I hp
   ·exfalso
    have hex:∃ i,i<ops.size/\¬Cl listed i:=by
     refine Classical.byContradiction fun h=>hall fun i hi=>Classical.byContradiction fun h'=>h ⟨i,hi,h'⟩
    have hleast:∃ i,(i<ops.size/\¬Cl listed i)/\∀ j,j<i->¬(j<ops.size/\¬Cl listed j):=by
     obtain⟨i,hi⟩:=hex
     induction i using Nat.strongRecOn with
     |_ i ihh=>
      by_cases h:∃ j,j<i/\(j<ops.size/\¬Cl listed j)
      ·obtain⟨j,hj,hj'⟩:=h
       exact ihh j hj hj'
      ·exact⟨i,hi,fun j hj h'=>h ⟨j,hj,h'⟩⟩
    obtain⟨i,⟨hi1,hi2⟩,hi3⟩:=hleast
    have hio:ops[i]? =some (ops[i]'hi1):=Array.getElem?_eq_getElem _
    have:i∈Region.ready .any ops listed:=by
     rw[mem_ready]
     refine⟨?_,_,hio,fun e he hb=>?_⟩
     ·have hil:i<listed.size:=by omega
      unfold Cl at hi2
      simp[hil]at hi2⊢
      exact hi2
     ·have hlt:=FM ops.toList 0 hup i _ ((Array.getElem?_toList (xs:=ops) (i:=i)).trans hio) e (by simpa using he) hb
      have:=Classical.byContradiction fun h=>hi3 e.on (by omega) ⟨by omega,h⟩
      exact this
    rw[hready]at this;cases this
  ·intro i hi
   obtain⟨hi1,o,hi2,hi3⟩:=mem_ready.1 hi
   have hiN:i<ops.size:=(Array.getElem?_eq_some_iff.1 hi2).1
   have hil:i<listed.size:=by omega
   have hni:¬Cl listed i:=by
    unfold Cl
    simp[hil]at hi1⊢
    exact hi1
   have hi2':ops.toList[i]? =some o:=(Array.getElem?_toList (xs:=ops) (i:=i)).trans hi2
   have hr:∀ e∈o.after.toList,Region.binds .any e=true->Cl listed e.on:=fun e he hb=>hi3 e (by simpa using he) hb
   have hl:∀ j,Cl (listed.setIfInBounds i true) j↔(Cl listed j\/j=i):=by
    intro j
    unfold Cl
    rw[Array.getD_eq_getD_getElem?,Array.getD_eq_getD_getElem?,Array.getElem?_setIfInBounds]
    by_cases hji:i=j
    ·subst hji;simp[hil]
    ·rw[if_neg hji]
     constructor
     ·intro h;exact .inl h
     ·rintro(h|h)
      ·exact h
      ·exact absurd h.symm hji
   have hdfx:∀ x,(a.put o.dst x).defers=Jo.d:=fun x=>by cases o.dst<;>exact hdf
   have hszx:∀ x,(a.put o.dst x).tmps.size=nt:=fun x=>by cases o.dst<;>simp[Act.put,ha]
   have hlook:=oc hd hs hc ha I hi2 hni hr
   have hlf':left ops.size (listed.setIfInBounds i true)<=fuel:=by
    have:left ops.size (listed.setIfInBounds i true)<left ops.size listed:=by
     unfold left
     refine HK _ _ _ (fun x _ hx=>?_) ⟨i,List.mem_range.2 hiN,?_,?_⟩
     ·have:=hl x
      unfold Cl at this
      cases hx1:listed.getD x false with
      |false=>rfl
      |true=>rw[this.2 (.inl hx1)]at hx;exact hx
     ·unfold Cl at hni
      simpa using hni
     ·have:=(hl i).2 (.inr rfl)
      unfold Cl at this
      rw[this];rfl
    omega
   have hc':Closed ops.toList (listed.setIfInBounds i true):=by
    intro j oj hj hjin e he hb
    rw[hl]at hjin⊢
    left
    rcases hjin with h|h
    ·exact hc j oj hj h e he hb
    ·subst h
     rw[hj]at hi2';cases hi2'
     exact hr e he hb
   have reach:∀ j,Reach ops.toList i j->Cl listed j:=fun j hR=>hR.VZ hc fun o' ho e he hb=>by rw[hi2']at ho;cases ho;exact hr e he hb
   obtain⟨c,c1,c2,c3⟩:=hp
   --the step,whichever it is
   have step:∀ (g g':H),BK P nt ops i o true (Ts i) (Ts (i+1)) g g'->g.floor=(Hs 0).floor->Aw ρ g w w0->(∀ ρ' w',Aw ρ' g' w' w0->∃ c,c<=ops.size/\(∀ k,k<ops.size->lo k->(Cl (listed.setIfInBounds i true) k↔k<c))/\Aw ρ' (Hs c) w' w0)->wpOp P ops Q i (wpAny P .any ops Q fuel (listed.setIfInBounds i true)) a w:=fun g g' S hfl R hAt=>by
    obtain⟨v,g2,e1,e2,e3,e4,e5,e6⟩:=S.ex
    simp only[if_true]at e2 e4 e5
    refine e5 ρ a w w0 _ Q hlook R fun ρ' x w' l1 l2 l3=>?_
    rw[<-e4]at l3
    refine ih _ _ w' ρ' (by simpa using hsz) hlf' hc' (hszx x) (hdfx x) (hE.trans (by rw[<-hfl];exact l1)) (mD hd hs hc ha I hi2 hni hr hl l1.1 fun q hq=>by rw[e1 q hq];exact l2) (hAt ρ' w' l3)
   by_cases hli:lo i
   ·have hci:c<=i:=Nat.le_of_not_lt fun h=>hni ((c2 i hiN hli).2 h)
    have hno:∀ k,c<=k->k<i->¬lo k:=fun k k1 k2 hk=>by
     have:=(c2 k (by omega) hk).1 (reach k (hch k i hk hli k2 hiN))
     omega
    have e:=same i c hci (by omega) hno
    refine step (Hs i) (Hs (i+1)) (hlo i o hli hi2) (Kg i (by omega)) (by rw[e];exact c3) fun ρ' w' R=>⟨i+1,by omega,fun k k1 k2=>?_,R⟩
    rw[hl,c2 k k1 k2]
    constructor
    ·rintro(h|h)<;>omega
    ·intro h
     by_cases e2:k=i
     ·exact .inr e2
     ·exact .inl (Nat.lt_of_not_le fun h3=>hno k h3 (by omega) k2)
   ·have hc2:∀ k,k<ops.size->lo k->(Cl (listed.setIfInBounds i true) k↔k<c):=fun k k1 k2=>by
     rw[hl,c2 k k1 k2]
     exact⟨fun h=>h.resolve_right fun e=>hli (e▸k2),.inl⟩
    obtain⟨⟨g,g',S⟩,hh⟩:=hqt i o hli hi2
    rcases hh with hst|hh
    ·obtain⟨v,g2,e1,e2,e3,e4,e5,e6⟩:=S.ex
     exact e6 hst ρ a w _ Q hlook fun x hx=>ih _ _ w ρ (by simpa using hsz) hlf' hc' (hszx x) (hdfx x) hE (mD hd hs hc ha I hi2 hni hr hl (BF.le_refl ρ) fun q hq=>by rw[e1 q hq];exact hx) ⟨c,c1,hc2,c3⟩
    ·refine step (Hs c) (Hs c) (hh c c1 (fun k k1 k2=>?_) fun k k1 k2 k3=>?_) (Kg c c1) c3 fun ρ' w' R=>⟨c,c1,hc2,R⟩
     ·have hkl:=reach k k2
      have hkN:k<ops.size:=by
       have:=k2.lt hup;omega
      exact(c2 k hkN k1).1 hkl
     ·have hkl:=(c2 k (by omega) k1).2 k2
      exact hni (k3.VZ hc fun o' ho e he hb=>hc k o' ho hkl e he hb)
/--such a region,from its beginning on -/
theorem KM (hm:P.follows .mixedOrders=true) (hd:Bx ops.toList=true) {Hs:Nat->H} {lo:Nat->Prop} (hs:ZY nt ops Ts) (hch:∀ i j,lo i->lo j->i<j->j<ops.size->Reach ops.toList j i)
 (hlo:∀ (i:Nat) o,lo i->ops[i]? =some o->BK P nt ops i o true (Ts i) (Ts (i+1)) (Hs i) (Hs (i+1))) (hsm:∀ i,i<ops.size->¬lo i->Hs (i+1)=Hs i)
 (hqt:∀ (i:Nat) o,¬lo i->ops[i]? =some o->(∃ g g',BK P nt ops i o true (Ts i) (Ts (i+1)) g g')/\(still P o.op=true\/∀ c,c<=ops.size->(∀ k,lo k->Reach ops.toList i k->k<c)->(∀ k,lo k->k<c->¬Reach ops.toList k i)->BK P nt ops i o true (Ts i) (Ts (i+1)) (Hs c) (Hs c))):
 Ak (Hs 0) (Hs ops.size)/\B.val (Hs 0).next<=B.val (Hs ops.size).next/\∀ ρ a w w0 (id:Nat) (Q:Exit->Act->World->Prop),CT ρ nt (Ts 0) a->Aw ρ (Hs 0) w w0->(∀ ρ' a' w',Ext (Hs 0).floor ρ ρ'->CT ρ' nt (Ts ops.size) a'->Aw ρ' (Hs ops.size) w' w0->Q .normal a' w')->(Code.region id ops true).wp P Q a w:=by
 have kk:∀ c,c<=ops.size->Ak (Hs 0) (Hs c)/\B.val (Hs 0).next<=B.val (Hs c).next:=by
  intro c
  induction c with
  |zero=>intro _;exact⟨Ak.refl _,Nat.le_refl _⟩
  |succ c ih=>
   intro hc
   obtain⟨k1,k2⟩:=ih (by omega)
   by_cases hl:lo c
   ·obtain⟨v,g,_,e2,e3,e4,_⟩:=(hlo c _ hl (Array.getElem?_eq_getElem (show c<ops.size by omega))).ex
    simp only[if_true]at e2 e4
    rw[<-e4]at e2 e3
    exact⟨Ak.trans k1 k2 e2,Nat.le_trans k2 e3⟩
   ·rw[hsm c (by omega) hl];exact⟨k1,k2⟩
 obtain⟨k1,k2⟩:=kk ops.size (Nat.le_refl _)
 refine⟨k1,k2,fun ρ a w w0 id Q A R hQ=>wp_region_any hm ?_⟩
 have hno:∀ j,¬Cl (Array.replicate ops.size false) j:=by
  intro j;unfold Cl
  by_cases hj:j<ops.size<;>simp[hj]
 refine uJ hd (Hs:=Hs) (lo:=lo) hs hch hlo hsm hqt (ρ0:=ρ) (w0:=w0) (fun ρ' a' w' q1 q2 q3=>hQ ρ' a' w' q1 q2 q3) ops.size _ a _ ρ (by simp) (by unfold left;exact Nat.le_trans (List.length_filter_le _ _) (by simp)) ?_ A.size A.defers (Ext.refl _ _) ?_ ⟨0,Nat.zero_le _,fun k _ _=>⟨fun h=>absurd h (hno k),fun h=>absurd h (Nat.not_lt_zero _)⟩,R.dr _⟩
 ·intro j o hj hin;exact absurd hin (hno j)
 ·intro q h5
  exact⟨0,Nat.zero_le _,.inl rfl,fun j o hj hdj=>⟨fun h=>by omega,fun hin=>absurd hin (hno j)⟩,A.slot q h5⟩
end
section
variable {P:Program}
theorem HZ {bars:Nat->Bool} {nt:Nat} {all:List Oper} {cop:Op->CR}:∀ {X:List CO} {l:List Oper} {n:Nat} {Y:List CO},AO bars P nt all cop n l=X++Y->
 ∃ lx ly,l=lx++ly/\AO bars P nt all cop n lx=X/\AO bars P nt all cop (n+lx.length) ly=Y:=by
 intro X
 induction X with
 |nil=>intro l n Y h;exact⟨[],l,rfl,rfl,h⟩
 |cons p X ih=>
  intro l n Y h
  match l,h with
  |[],h=>cases h
  |o::l,h=>
   have h1:=(List.cons.inj h).1
   obtain⟨lx,ly,e1,e2,e3⟩:=ih (List.cons.inj h).2
   refine⟨o::lx,ly,by rw[e1];rfl,by show _::AO bars P nt all cop (n+1) lx=_;rw[e2,h1],?_⟩
   rw[<-e3,show n+(o::lx).length=n+1+lx.length by simp;omega]
theorem GF {bars:Nat->Bool} {nt:Nat} {all:List Oper} {cop:Op->CR} {l:List Oper} {n:Nat} {A:CO} {Y:List CO} (h:AO bars P nt all cop n l=A::Y):
 ∃ o l',l=o::l'/\A=⟨BJ nt all o.guard,Ce nt o.dst,bars n,cop o.op⟩/\AO bars P nt all cop (n+1) l'=Y:=by
 match l,h with
 |[],h=>cases h
 |o::l,h=>exact⟨o,l,rfl,(List.cons.inj h).1.symm,(List.cons.inj h).2⟩
/--all but two leave memory alone;the second one comes behind all that touch it,or ahead of them -/
theorem Vs (hm:P.follows .mixedOrders=true) {nt:Nat} {ops:Array Oper} {Ts:Nat->F} (hd:Bx ops.toList=true) {n p:Nat} (hnp:n<p) (hp:p<ops.size) {h h2 h3:H} (hbar:CI P ops.toList (CS ops.toList []) p=true)
 (hQ0:∀ (i:Nat) o,i<p->i≠n->ops[i]? =some o->BK P nt ops i o true (Ts i) (Ts (i+1)) h h/\BK P nt ops i o true (Ts i) (Ts (i+1)) h2 h2)
 (hR0:∀ (i:Nat) o,p<i->ops[i]? =some o->BK P nt ops i o true (Ts i) (Ts (i+1)) h3 h3)
 (hA:∀ o,ops[n]? =some o->BK P nt ops n o true (Ts n) (Ts (n+1)) h h2) (hB:∀ o,ops[p]? =some o->BK P nt ops p o true (Ts p) (Ts (p+1)) h2 h3):
 Ak h h3/\B.val h.next<=B.val h3.next/\∀ ρ a w w0 (id:Nat) (Q:Exit->Act->World->Prop),CT ρ nt (Ts 0) a->Aw ρ h w w0->(∀ ρ' a' w',Ext h.floor ρ ρ'->CT ρ' nt (Ts ops.size) a'->Aw ρ' h3 w' w0->Q .normal a' w')->(Code.region id ops true).wp P Q a w:=by
 have hup:Ep 0 ops.toList=true:=by simp only[Bx,Bool.and_eq_true]at hd;exact hd.1
 have hbr:∀ (j:Nat) o,j≠p->ops[j]? =some o->still P o.op=false->(j<p->Reach ops.toList p j)/\(p<j->Reach ops.toList j p):=fun j o hj ho hst=>by
  rcases KG hbar ((Array.getElem?_toList (xs:=ops) (i:=j)).trans ho) hst (Ne.symm hj)with h|h
  ·have:=h.lt hup;exact⟨fun _=>by omega,fun _=>h⟩
  ·have:=h.lt hup;exact⟨fun _=>h,fun _=>by omega⟩
 have ha:ops[n]? =some (ops[n]'(by omega)):=Array.getElem?_eq_getElem _
 let Hs:Nat->H:=fun i=>if i<=n then h else if i<=p then h2 else h3
 have V0:∀ i,i<=n->Hs i=h:=fun i hi=>if_pos hi
 have V1:∀ i,n<i->i<=p->Hs i=h2:=fun i h1 h3=>by
  show(if _ then _ else _)=_
  rw[if_neg (by omega),if_pos h3]
 have V2:∀ i,p<i->Hs i=h3:=fun i h1=>by
  show(if _ then _ else _)=_
  rw[if_neg (by omega),if_neg (by omega)]
 have hs:ZY nt ops Ts:=fun i o ho=>by
  have S:∃ g g',BK P nt ops i o true (Ts i) (Ts (i+1)) g g':=by
   by_cases e:i=n
   ·subst e;exact⟨_,_,hA o ho⟩
   ·rcases Nat.lt_trichotomy i p with h1|h1|h1
    ·exact⟨_,_,(hQ0 i o h1 e ho).1⟩
    ·subst h1;exact⟨_,_,hB o ho⟩
    ·exact⟨_,_,hR0 i o h1 ho⟩
  obtain⟨g,g',S⟩:=S
  exact⟨S.dst,S.rest⟩
 have R:=KM (nt:=nt) (ops:=ops) (Ts:=Ts) (Hs:=Hs) (lo:=fun k=>k=p\/(k=n/\∀ o,ops[k]? =some o->still P o.op=false)) hm hd hs
  (fun i j hi hj hij hjN=>by
    rcases hi with rfl|⟨rfl,hi⟩
    ·rcases hj with rfl|⟨rfl,_⟩<;>omega
    ·rcases hj with rfl|⟨rfl,_⟩
     ·exact(hbr _ _ (by omega) ha (hi _ ha)).1 hnp
     ·omega)
  (fun i o hi ho=>by
    rcases hi with rfl|⟨rfl,_⟩
    ·rw[V1 _ hnp (Nat.le_refl _),V2 _ (by omega)];exact hB o ho
    ·rw[V0 _ (Nat.le_refl _),V1 _ (by omega) (by omega)];exact hA o ho)
  (fun i hi hl=>by
    by_cases h1:i=n
    ·subst h1
     rw[V0 _ (Nat.le_refl _),V1 _ (by omega) (by omega)]
     cases hst:still P (ops[i]'(by omega)).op with
     |true=>exact(hA _ ha).calm hst
     |false=>exact absurd (.inr ⟨rfl,fun o ho=>by rw[ha]at ho;cases ho;exact hst⟩) hl
    ·by_cases h2:i=p
     ·exact absurd (.inl h2) hl
     ·by_cases h3:i<n
      ·rw[V0 _ (by omega),V0 _ (by omega)]
      ·by_cases h4:i<p
       ·rw[V1 _ (by omega) (by omega),V1 _ (by omega) (by omega)]
       ·rw[V2 _ (by omega),V2 _ (by omega)])
  (fun i o hl ho=>by
    have hiN:i<ops.size:=(Array.getElem?_eq_some_iff.1 ho).1
    by_cases h1:i=n
    ·subst h1
     refine⟨⟨_,_,hA o ho⟩,.inl ?_⟩
     cases hst:still P o.op with
     |true=>rfl
     |false=>exact absurd (.inr ⟨rfl,fun o' ho'=>by rw[ho]at ho';cases ho';exact hst⟩) hl
    ·have h2:i≠p:=fun e=>hl (.inl e)
     cases hst:still P o.op with
     |true=>
      refine⟨?_,.inl rfl⟩
      by_cases h4:i<p
      ·exact⟨_,_,(hQ0 i o h4 h1 ho).1⟩
      ·exact⟨_,_,hR0 i o (by omega) ho⟩
     |false=>
      obtain⟨r1,r2⟩:=hbr i o h2 ho hst
      by_cases h4:i<p
      ·obtain⟨x1,x2⟩:=hQ0 i o h4 h1 ho
       refine⟨⟨_,_,x1⟩,.inr fun c c1 c2 c3=>?_⟩
       have hcp:c<=p:=Nat.le_of_not_lt fun h=>c3 p (.inl rfl) h (r1 h4)
       by_cases h5:c<=n
       ·rw[V0 _ h5];exact x1
       ·rw[V1 _ (by omega) hcp];exact x2
      ·have x1:=hR0 i o (by omega) ho
       refine⟨⟨_,_,x1⟩,.inr fun c c1 c2 c3=>?_⟩
       rw[V2 _ (c2 p (.inl rfl) (r2 (by omega)))];exact x1)
 rw[V0 0 (Nat.zero_le _),V2 ops.size hp]at R
 exact R
theorem P8 {x y:V} (h:Vn x y=true):x=y:=by
 cases x with
 |b x=>
  obtain⟨z,rfl,h⟩:=IZ (show vB y (fun y=>rP x y)=true from h)
  cases x<;>cases z<;>first|rfl|cases h
 |i kd n=>
  obtain⟨kd',n',rfl,h⟩:=Cq (show vI y (fun kd' n'=>Ap (CU kd kd') fun _=>KC n n')=true from h)
  obtain⟨h1,h⟩:=AT h
  rw[Ee]at h
  rw[Dz h1,eq_of_beq h]
 |s len n=>
  obtain⟨len',n',rfl,h⟩:=ER (show vS y (fun len' n'=>Ap (Nat.beq len len') fun _=>Nat.beq n n')=true from h)
  obtain⟨h1,h⟩:=AT h
  rw[Nat.eq_of_beq_eq_true h1,Nat.eq_of_beq_eq_true h]
 |p id g off fin=>
  obtain⟨id',g',off',fin',rfl,h⟩:=FV (show vP y (fun id' g' off' fin'=>Ap (Nat.beq (B.val id) (B.val id')) fun _=>Ap (Nat.beq g g') fun _=>Ap (Nat.beq off off') fun _=>Nat.beq fin fin')=true from h)
  obtain⟨h1,h⟩:=AT h
  obtain⟨h2,h⟩:=AT h
  obtain⟨h3,h⟩:=AT h
  rw[B.val_inj (Nat.eq_of_beq_eq_true h1),Nat.eq_of_beq_eq_true h2,Nat.eq_of_beq_eq_true h3,Nat.eq_of_beq_eq_true h]
 |p0=>
  rcases KU (show PW y (fun _=>true) (fun _ _ _ _=>false)=true from h)with⟨rfl,h⟩|⟨_,_,_,_,rfl,h⟩
  ·rfl
  ·cases h
 |l0=>
  rcases Eh (show vL y (fun _=>true) (fun _ _ _ _ _ _=>false)=true from h)with⟨rfl,h⟩|⟨_,_,_,_,_,_,rfl,h⟩
  ·rfl
  ·cases h
 |l id g off len fin cap=>
  rcases Eh (show vL y (fun _=>false) (fun id' g' off' len' fin' cap'=>Ap (Nat.beq (B.val id) (B.val id')) fun _=>Ap (Nat.beq g g') fun _=>Ap (Nat.beq off off') fun _=>Ap (Nat.beq len len') fun _=>Ap (Nat.beq fin fin') fun _=>wP cap cap')=true from h)with⟨rfl,h⟩|⟨id',g',off',len',fin',cap',rfl,h⟩
  ·cases h
  ·obtain⟨h1,h⟩:=AT h
   obtain⟨h2,h⟩:=AT h
   obtain⟨h3,h⟩:=AT h
   obtain⟨h4,h⟩:=AT h
   obtain⟨h5,h⟩:=AT h
   have h6:cap=cap':=by
    cases cap<;>cases cap'<;>first|rfl|cases h|exact congrArg some (Nat.eq_of_beq_eq_true h)
   rw[B.val_inj (Nat.eq_of_beq_eq_true h1),Nat.eq_of_beq_eq_true h2,Nat.eq_of_beq_eq_true h3,Nat.eq_of_beq_eq_true h4,Nat.eq_of_beq_eq_true h5,h6]
 |m0=>
  have h':vM y (fun _=>true) (fun _=>false)=true:=h
  cases y<;>first|rfl|exact Bool.noConfusion h'
 |m id=>
  have h':vM y (fun _=>false) (fun id'=>Nat.beq (B.val id) (B.val id'))=true:=h
  cases y<;>try exact Bool.noConfusion h'
  rw[B.val_inj (Nat.eq_of_beq_eq_true h')]
 |c0=>
  have h':vC y (fun _=>true) (fun _=>false)=true:=h
  cases y<;>first|rfl|exact Bool.noConfusion h'
 |c id=>
  have h':vC y (fun _=>false) (fun id'=>Nat.beq (B.val id) (B.val id'))=true:=h
  cases y<;>try exact Bool.noConfusion h'
  rw[B.val_inj (Nat.eq_of_beq_eq_true h')]
 |_=>exact Bool.noConfusion h
theorem QM:∀ {xs ys:List V},W7 xs ys=true->xs=ys
 |[],[],_=>rfl
 |[],_::_,h=>Bool.noConfusion h
 |_::_,[],h=>Bool.noConfusion h
 |x::xs,y::ys,h=>by
  obtain⟨h1,h2⟩:=AT (show Ap (Vn x y) (fun _=>W7 xs ys)=true from h)
  rw[P8 h1,QM h2]
theorem cM {x y:V} (h:tX x y=true):x=y:=by
 cases x with
 |a cs=>
  obtain⟨cs',rfl,h⟩:=Lh (show vA y (fun cs'=>W7 cs cs')=true from h)
  rw[QM h]
 |_=>exact P8 h
theorem Qf {v1 v2:V} {h1 h2:H} (e:∀ k:V->H->Bool,k v1 h1=k v2 h2):v2=v1/\h2=h1:=by
 have:=e fun t h=>@decide (t=v1/\h=h1) (Classical.propDecidable _)
 simp at this
 exact this
theorem UR {t1 t2:F} {h1 h2:H} (e:∀ k:F->H->Bool,k t1 h1=k t2 h2):t2=t1/\h2=h1:=by
 have:=e fun t h=>@decide (t=t1/\h=h1) (Classical.propDecidable _)
 simp at this
 exact this
theorem Im {o:Oper} (hq:quiet P o.op=true) {cf:Bo} (hcf:Fb P cf) {t:F} {h:H} {v:V} {h':H} (e:∀ k',runK (AU P o.op) cf t h k'=k' v h'):h'=h:=by
 have base:still P o.op=true->h'=h:=fun hs=>by
  obtain⟨v2,h2,r1,r2,r3,r4,r5⟩:=Dq P o cf hcf t h _ (e fun _ _=>true)
  obtain⟨_,rfl⟩:=Qf fun k=>(e k).symm.trans (r1 k)
  exact(r5 hs).1
 cases ho:o.op with
 |load el x=>
  rw[ho]at e
  have e1:∀ k',runK (ET (Ar P el) (AI x)) cf t h k'=k' v h':=e
  have key:∀ (r:CW),(∃ s,r=Ah s (AI x))\/r=Aa (AI x)\/r=Av->(∀ k',r cf t h k'=k' v h')->h'=h:=by
   intro r hr e2
   rcases hr with⟨s,rfl⟩|rfl|rfl
   ·have h1:=e2 fun _ _=>true
    simp only[Ah,AN]at h1
    obtain⟨id,g,off,fin,hv,h1⟩:=FV h1
    obtain⟨vs,n1,_⟩:=EX h1
    refine(Qf (v1:=.a vs) (v2:=v) (h1:=h) fun k=>?_).2
    rw[<-e2 k]
    simp only[Ah,AN,hv,IU,n1]
   ·have h1:=e2 fun _ _=>true
    simp only[Aa,AN]at h1
    obtain⟨id,g,off,fin,hv,h1⟩:=FV h1
    obtain⟨vs,n1,_⟩:=IW h1
    refine(Qf (v1:=vs) (v2:=v) (h1:=h) fun k=>?_).2
    rw[<-e2 k]
    simp only[Aa,AN,hv,IU,n1]
   ·have h1:=e2 fun _ _=>true
    cases h1
  refine key _ ?_ e1
  unfold ET
  split
  ·split
   ·exact .inl ⟨_,rfl⟩
   ·exact .inr (.inl rfl)
  ·exact .inr (.inr rfl)
 |nilCheck x=>
  rw[ho]at e
  have e1:∀ k',Be (AI x) cf t h k'=k' v h':=e
  have h1:=e1 fun _ _=>true
  simp only[Be,AN]at h1
  obtain⟨id,g,off,fin,hv,h1⟩:=FV h1
  refine(Qf (v1:=.p id g off fin) (v2:=v) (h1:=h) fun k=>?_).2
  rw[<-e1 k]
  simp only[Be,AN,hv,IU]
 |_=>exact base (by rw[ho]at hq⊢;exact hq)
theorem Mc (o:CO) (cf:Bo) (ih:F->H->(F->H->Bool)->Bool) (t:F) (h:H) (k:F->H->Bool):KV o cf ih t h k=Vd (.mk o.guard o.dst true o.run) cf ih t h k:=by
 obtain⟨g,d,b,r⟩:=o
 show CZ g t (fun b=>IM b r d cf ih t h k)=CZ g t (fun b=>JJ b true r d cf ih t h k)
 congr 1;funext b;cases b<;>rfl
section
variable {cf:Bo} {nt:Nat} {ops:Array Oper}
theorem QI (hcf:Fb P cf) {i:Nat} {o:Oper} (hi:ops[i]? =some o) {b:Bool} {t:F} {h:H} {ih:F->H->(F->H->Bool)->Bool} {k:F->H->Bool} (hk:KV ⟨BJ nt ops.toList o.guard,Ce nt o.dst,b,AU P o.op⟩ cf ih t h k=true):
 ∃ t' h',(∀ ih' k',KV ⟨BJ nt ops.toList o.guard,Ce nt o.dst,b,AU P o.op⟩ cf ih' t h k'=ih' t' h' k')/\BK P nt ops i o true t t' h h'/\(quiet P o.op=true->h'=h):=by
 rw[Mc]at hk
 have hk':Vd ⟨BJ nt ops.toList o.guard,Ce nt o.dst,true,AU P o.op⟩ cf ih t h k=true:=hk
 have e:∀ ih' k',Vd ⟨BJ nt ops.toList o.guard,Ce nt o.dst,true,AU P o.op⟩ cf ih' t h k'=CZ (BJ nt ops.toList o.guard) t fun b=>JJ b true (AU P o.op) (Ce nt o.dst) cf ih' t h k':=fun _ _=>rfl
 rw[e]at hk'
 obtain⟨b2,g1,g2⟩:=HE hk'
 rw[g1]at hk'
 have fin:∀ t' h',(∀ ih' k',JJ b2 true (AU P o.op) (Ce nt o.dst) cf ih' t h k'=ih' t' h' k')->(quiet P o.op=true->h'=h)->∃ t' h',(∀ ih' k',KV ⟨BJ nt ops.toList o.guard,Ce nt o.dst,b,AU P o.op⟩ cf ih' t h k'=ih' t' h' k')/\BK P nt ops i o true t t' h h'/\(quiet P o.op=true->h'=h):=fun t' h' q1 q2=>by
  have q3:∀ ih' k',Vd ⟨BJ nt ops.toList o.guard,Ce nt o.dst,true,AU P o.op⟩ cf ih' t h k'=ih' t' h' k':=fun ih' k'=>by rw[e,g1,q1]
  obtain⟨t2,h2,a1,a2⟩:=J1 hcf hi (Gv:=true) (ih:=fun t h k=>k t h) (k:=fun _ _=>true) (q3 _ _)
  obtain⟨rfl,rfl⟩:=UR fun k=>(q3 (fun t h k=>k t h) k).symm.trans (a1 k)
  exact⟨_,_,fun ih' k'=>by rw[Mc];exact q3 ih' k',a2,q2⟩
 cases b2 with
 |false=>
  have hk2:DE (Ce nt o.dst) (.tu []) t (fun t=>ih t h k)=true:=hk'
  obtain⟨t',p1,_⟩:=GR hk2
  exact fin t' h (fun ih' k'=>p1 fun t=>ih' t h k') fun _=>rfl
 |true=>
  have hk2:runK (AU P o.op) cf t h (fun v h=>DE (Ce nt o.dst) v t fun t=>ih t h k)=true:=hk'
  obtain⟨v,h',r1,r2,r3,r4,r5⟩:=Dq P o cf hcf t h _ hk2
  rw[r1]at hk2
  obtain⟨t',p1,_⟩:=GR hk2
  exact fin t' h' (fun ih' k'=>(r1 fun v h=>DE (Ce nt o.dst) v t fun t=>ih' t h k').trans (p1 fun t=>ih' t h' k')) fun hq=>Im hq hcf r1
theorem RX (hcf:Fb P cf) {i:Nat} {o:Oper} (hi:ops[i]? =some o) (hq:quiet P o.op=true) {b:Bool} {t:F} {h h2:H} {ih:F->H->H->(F->Bool)->Bool} {k:F->Bool} (hk:K3 ⟨BJ nt ops.toList o.guard,Ce nt o.dst,b,AU P o.op⟩ cf ih t h h2 k=true):
 ∃ t',(∀ ih' k',K3 ⟨BJ nt ops.toList o.guard,Ce nt o.dst,b,AU P o.op⟩ cf ih' t h h2 k'=ih' t' h h2 k')/\(∀ ih' k',KV ⟨BJ nt ops.toList o.guard,Ce nt o.dst,b,AU P o.op⟩ cf ih' t h k'=ih' t' h k')/\
  BK P nt ops i o true t t' h h/\BK P nt ops i o true t t' h2 h2:=by
 have e:∀ ih' k',K3 ⟨BJ nt ops.toList o.guard,Ce nt o.dst,b,AU P o.op⟩ cf ih' t h h2 k'=CZ (BJ nt ops.toList o.guard) t fun b=>Um b (AU P o.op) (Ce nt o.dst) cf ih' t h h2 k':=fun _ _=>rfl
 have eo:∀ (g:H) ih' k',KV ⟨BJ nt ops.toList o.guard,Ce nt o.dst,b,AU P o.op⟩ cf ih' t g k'=CZ (BJ nt ops.toList o.guard) t fun b=>IM b (AU P o.op) (Ce nt o.dst) cf ih' t g k':=fun _ _ _=>rfl
 rw[e]at hk
 obtain⟨b2,g1,g2⟩:=HE hk
 rw[g1]at hk
 have one:∀ (g:H) t',(∀ ih' k',IM b2 (AU P o.op) (Ce nt o.dst) cf ih' t g k'=ih' t' g k')->(∀ ih' k',KV ⟨BJ nt ops.toList o.guard,Ce nt o.dst,b,AU P o.op⟩ cf ih' t g k'=ih' t' g k')/\BK P nt ops i o true t t' g g:=fun g t' q=>by
  have q3:∀ ih' k',KV ⟨BJ nt ops.toList o.guard,Ce nt o.dst,b,AU P o.op⟩ cf ih' t g k'=ih' t' g k':=fun ih' k'=>by rw[eo,g1,q]
  obtain⟨t2,h3,a1,a2,a3⟩:=QI hcf hi (ih:=fun t h k=>k t h) (k:=fun _ _=>true) (q3 _ _)
  obtain⟨rfl,rfl⟩:=UR fun k=>(q3 (fun t h k=>k t h) k).symm.trans (a1 (fun t h k=>k t h) k)
  exact⟨q3,a2⟩
 cases b2 with
 |false=>
  have hk2:DE (Ce nt o.dst) (.tu []) t (fun t=>ih t h h2 k)=true:=hk
  obtain⟨t',p1,_⟩:=GR hk2
  have q:∀ (g:H) ih' k',IM false (AU P o.op) (Ce nt o.dst) cf ih' t g k'=ih' t' g k':=fun g ih' k'=>p1 fun t=>ih' t g k'
  obtain⟨x1,x2⟩:=one h t' (q h)
  obtain⟨y1,y2⟩:=one h2 t' (q h2)
  exact⟨t',fun ih' k'=>by rw[e,g1];exact p1 fun t=>ih' t h h2 k',x1,x2,y2⟩
 |true=>
  have hk2:runK (AU P o.op) cf t h (fun v _=>runK (AU P o.op) cf t h2 fun v' _=>Ap (tX v v') fun _=>DE (Ce nt o.dst) v t fun t=>ih t h h2 k)=true:=hk
  obtain⟨v,h',r1,r2,r3,r4,r5⟩:=Dq P o cf hcf t h _ hk2
  obtain rfl:=Im hq hcf r1
  rw[r1]at hk2
  obtain⟨v',h2',s1,s2,s3,s4,s5⟩:=Dq P o cf hcf t h2 _ hk2
  obtain rfl:=Im hq hcf s1
  rw[s1]at hk2
  obtain⟨hv,hk2⟩:=AT hk2
  obtain⟨t',p1,_⟩:=GR hk2
  obtain rfl:=cM hv
  obtain⟨x1,x2⟩:=one h' t' fun ih' k'=>(r1 _).trans (p1 fun t=>ih' t h' k')
  obtain⟨y1,y2⟩:=one h2' t' fun ih' k'=>(s1 _).trans (p1 fun t=>ih' t h2' k')
  refine⟨t',fun ih' k'=>?_,x1,x2,y2⟩
  rw[e,g1]
  show runK (AU P o.op) cf t h' (fun v _=>runK (AU P o.op) cf t h2' fun v' _=>Ap (tX v v') fun _=>DE (Ce nt o.dst) v t fun t=>ih' t h' h2' k')=_
  rw[r1,s1,hv,AF]
  exact p1 fun t=>ih' t h' h2' k'
/--all operations,one by one -/
theorem U9 (hcf:Fb P cf) (bars:Nat->Bool):∀ (l:List Oper) (n:Nat),ops.toList.drop n=l->∀ (t:F) (h:H) (k:List (F×H)->F->H->Bool),
 ON cf (AO bars P nt ops.toList (AU P) n l) t h k=true->
 ∃ (Ts:Nat->F) (Hs:Nat->H) (L:List (F×H)),Ts n=t/\Hs n=h/\(∀ k',ON cf (AO bars P nt ops.toList (AU P) n l) t h k'=k' L (Ts (n+l.length)) (Hs (n+l.length)))/\(∀ m,m<l.length->L[m]? =some (Ts (n+m+1),Hs (n+m+1)))/\L.length=l.length/\
  ∀ (i:Nat) o,n<=i->ops[i]? =some o->BK P nt ops i o true (Ts i) (Ts (i+1)) (Hs i) (Hs (i+1))/\(quiet P o.op=true->Hs (i+1)=Hs i)/\∀ b ih' k',KV ⟨BJ nt ops.toList o.guard,Ce nt o.dst,b,AU P o.op⟩ cf ih' (Ts i) (Hs i) k'=ih' (Ts (i+1)) (Hs (i+1)) k':=by
 intro l
 induction l with
 |nil=>
  intro n hl t h k hk
  refine⟨fun _=>t,fun _=>h,[],rfl,rfl,fun _=>rfl,fun m hm=>by simp at hm,rfl,fun i o h1 h2=>?_⟩
  have h3:i<ops.size:=(Array.getElem?_eq_some_iff.1 h2).1
  have:=congrArg List.length hl
  simp at this;omega
 |cons o l ih=>
  intro n hl t h k hk
  have hn:ops[n]? =some o:=by
   have:ops.toList[n]? =some o:=by
    have:=congrArg (fun l=>l[0]?) hl
    simpa using this
   simpa using this
  have e:∀ k',ON cf (AO bars P nt ops.toList (AU P) n (o::l)) t h k'=KV ⟨BJ nt ops.toList o.guard,Ce nt o.dst,bars n,AU P o.op⟩ cf (fun t1 h1 _=>ON cf (AO bars P nt ops.toList (AU P) (n+1) l) t1 h1 fun l t2 h2=>k' ((t1,h1)::l) t2 h2) t h fun _ _=>true:=fun _=>rfl
  rw[e]at hk
  obtain⟨t1,h1,a1,a2,a3⟩:=QI hcf hn hk
  rw[a1]at hk
  have hl':ops.toList.drop (n+1)=l:=by rw[<-List.drop_drop,hl];rfl
  obtain⟨Ts,Hs,L,b1,b2,b3,b4,b5,b6⟩:=ih (n+1) hl' t1 h1 _ hk
  have e1:n+(o::l).length=n+1+l.length:=by simp;omega
  have e2:∀ m,n<m->¬m=n:=fun m hm=>by omega
  refine⟨fun i=>if i=n then t else Ts i,fun i=>if i=n then h else Hs i,(t1,h1)::L,by simp,by simp,fun k'=>?_,fun m hm=>?_,by simp[b5],fun i oi h1' hi=>?_⟩
  ·rw[e1];simp only[e2 _ (show n<n+1+l.length by omega),if_false];rw[e,a1,b3]
  ·cases m with
   |zero=>simp only[Nat.add_zero,e2 _ (Nat.lt_succ_self n),if_false];rw[b1,b2];rfl
   |succ m=>
    simp only[e2 _ (show n<n+(m+1)+1 by omega),if_false]
    rw[List.getElem?_cons_succ,b4 m (by simpa using hm),show n+(m+1)+1=n+1+m+1 by omega]
  ·by_cases hin:i=n
   ·subst hin
    rw[hn]at hi
    cases hi
    simp only[if_true,e2 _ (Nat.lt_succ_self i),if_false,b1,b2]
    refine⟨a2,a3,fun b ih' k'=>?_⟩
    rw[Mc]
    have:=a1 ih' k'
    rw[Mc]at this
    exact this
   ·simp only[hin,if_false,e2 _ (show n<i+1 by omega)]
    exact b6 i oi (by omega) hi
theorem QA (hcf:Fb P cf) {i:Nat} {o:Oper} (hi:ops[i]? =some o) (hq:quiet P o.op=true) {b:Bool} {l:List (F×H)} {ti:F} {h:H}:∀ {js:List Nat} {k:Unit->Bool},
 Ka ⟨BJ nt ops.toList o.guard,Ce nt o.dst,b,AU P o.op⟩ cf l ti h js k=true->
 (∀ k',Ka ⟨BJ nt ops.toList o.guard,Ce nt o.dst,b,AU P o.op⟩ cf l ti h js k'=k' ())/\∀ j∈js,∃ tj hj t',l[j]? =some (tj,hj)/\BK P nt ops i o true ti t' hj hj/\∀ ih' k',KV ⟨BJ nt ops.toList o.guard,Ce nt o.dst,b,AU P o.op⟩ cf ih' ti h k'=ih' t' h k'
 |[],k,hk=>⟨fun _=>rfl,fun j hj=>by cases hj⟩
 |j::js,k,hk=>by
  have e:∀ k',Ka ⟨BJ nt ops.toList o.guard,Ce nt o.dst,b,AU P o.op⟩ cf l ti h (j::js) k'=B9 l[j]? (fun th=>Prod.rec (fun _ hj=>K3 ⟨BJ nt ops.toList o.guard,Ce nt o.dst,b,AU P o.op⟩ cf (fun t _ _ k=>k t) ti h hj fun _=>Ka ⟨BJ nt ops.toList o.guard,Ce nt o.dst,b,AU P o.op⟩ cf l ti h js k') th):=fun _=>rfl
  rw[e]at hk
  obtain⟨⟨tj,hj⟩,h1,hk⟩:=Bb hk
  have hk:K3 ⟨BJ nt ops.toList o.guard,Ce nt o.dst,b,AU P o.op⟩ cf (fun t _ _ k=>k t) ti h hj (fun _=>Ka ⟨BJ nt ops.toList o.guard,Ce nt o.dst,b,AU P o.op⟩ cf l ti h js k)=true:=hk
  obtain⟨t',a1,a2,a3,a4⟩:=RX hcf hi hq hk
  rw[a1]at hk
  obtain⟨b1,b2⟩:=QA hcf hi hq hk
  refine⟨fun k'=>?_,fun q hq'=>?_⟩
  ·rw[e,h1]
   show K3 ⟨BJ nt ops.toList o.guard,Ce nt o.dst,b,AU P o.op⟩ cf (fun t _ _ k=>k t) ti h hj (fun _=>Ka ⟨BJ nt ops.toList o.guard,Ce nt o.dst,b,AU P o.op⟩ cf l ti h js k')=_
   rw[a1,b1]
  ·rcases List.mem_cons.1 hq' with rfl|hq'
   ·exact⟨tj,hj,t',h1,a4,a2⟩
   ·exact b2 q hq'
theorem QV {bars:Nat->Bool} {all:List Oper} {cop:Op->CR}:∀ {l:List Oper} {n i:Nat} {o:Oper},l[i]? =some o->(AO bars P nt all cop n l)[i]? =some ⟨BJ nt all o.guard,Ce nt o.dst,bars (n+i),cop o.op⟩
 |[],_,_,_,h=>by simp at h
 |x::l,n,0,o,h=>by
  obtain rfl:x=o:=by simpa using h
  rfl
 |x::l,n,i+1,o,h=>by
  have:=QV (bars:=bars) (all:=all) (cop:=cop) (l:=l) (n:=n+1) (i:=i) (o:=o) (by simpa using h)
  rw[show n+1+i=n+(i+1)by omega]at this
  exact this
theorem N5 (hcf:Fb P cf) (bars:Nat->Bool) {l:List (F×H)}:∀ {cs:List (Nat×List Nat)},(∀ p∈cs,∃ o,ops[p.1]? =some o/\quiet P o.op=true)->∀ {k:Unit->Bool},
 Jf cf (AO bars P nt ops.toList (AU P) 0 ops.toList) l cs k=true->
 (∀ k',Jf cf (AO bars P nt ops.toList (AU P) 0 ops.toList) l cs k'=k' ())/\∀ p∈cs,∀ o,ops[p.1]? =some o->∃ ti h b,l[p.1]? =some (ti,h)/\∀ j∈p.2,∃ tj hj t',l[j]? =some (tj,hj)/\BK P nt ops p.1 o true ti t' hj hj/\∀ ih' k',KV ⟨BJ nt ops.toList o.guard,Ce nt o.dst,b,AU P o.op⟩ cf ih' ti h k'=ih' t' h k'
 |[],_,k,hk=>⟨fun _=>rfl,fun p hp=>by cases hp⟩
 |(i,js)::cs,hcs,k,hk=>by
  have e:∀ k',Jf cf (AO bars P nt ops.toList (AU P) 0 ops.toList) l ((i,js)::cs) k'=B9 (AO bars P nt ops.toList (AU P) 0 ops.toList)[i]? fun o=>B9 l[i]? fun th=>Prod.rec (fun ti hi=>Ka o cf l ti hi js fun _=>Jf cf (AO bars P nt ops.toList (AU P) 0 ops.toList) l cs k') th:=fun _=>rfl
  obtain⟨o,ho,hq⟩:=hcs (i,js) (by simp)
  have ho:ops[i]? =some o:=ho
  have hg:=QV (P:=P) (nt:=nt) (bars:=bars) (all:=ops.toList) (cop:=AU P) (n:=0) ((Array.getElem?_toList (xs:=ops) (i:=i)).trans ho)
  rw[Nat.zero_add]at hg
  rw[e,hg]at hk
  obtain⟨⟨ti,hi⟩,h1,hk⟩:=Bb (show B9 l[i]? (fun th=>Prod.rec (fun ti hi=>Ka ⟨BJ nt ops.toList o.guard,Ce nt o.dst,bars i,AU P o.op⟩ cf l ti hi js fun _=>Jf cf (AO bars P nt ops.toList (AU P) 0 ops.toList) l cs k) th)=true from hk)
  have hk:Ka ⟨BJ nt ops.toList o.guard,Ce nt o.dst,bars i,AU P o.op⟩ cf l ti hi js (fun _=>Jf cf (AO bars P nt ops.toList (AU P) 0 ops.toList) l cs k)=true:=hk
  obtain⟨a1,a2⟩:=QA hcf ho hq hk
  rw[a1]at hk
  obtain⟨b1,b2⟩:=N5 hcf bars (fun p hp=>hcs p (List.mem_cons_of_mem _ hp)) hk
  refine⟨fun k'=>?_,fun p hp=>?_⟩
  ·rw[e,hg,h1]
   show Ka ⟨BJ nt ops.toList o.guard,Ce nt o.dst,bars i,AU P o.op⟩ cf l ti hi js (fun _=>Jf cf (AO bars P nt ops.toList (AU P) 0 ops.toList) l cs k')=_
   rw[a1,b1]
  ·rcases List.mem_cons.1 hp with rfl|hp
   ·intro o' ho'
    have ho':ops[i]? =some o':=ho'
    rw[ho]at ho';cases ho'
    exact⟨ti,hi,bars i,h1,a2⟩
   ·exact b2 p hp
theorem GH {k:Nat}:∀ {l:List Oper} {n:Nat},k∈Bw P n l↔∃ i o,k=n+i/\l[i]? =some o/\quiet P o.op=false
 |[],n=>by simp[Bw]
 |o::l,n=>by
  have ih:=GH (k:=k) (l:=l) (n:=n+1)
  have tail:(k∈Bw P (n+1) l)↔∃ i x,k=n+(i+1)/\l[i]? =some x/\quiet P x.op=false:=by
   rw[ih]
   constructor
   ·rintro⟨i,x,h1,h2,h3⟩;exact⟨i,x,by omega,h2,h3⟩
   ·rintro⟨i,x,h1,h2,h3⟩;exact⟨i,x,by omega,h2,h3⟩
  cases hq:quiet P o.op with
  |true=>
   have e:Bw P n (o::l)=Bw P (n+1) l:=by simp only[Bw,hq]
   rw[e,tail]
   constructor
   ·rintro⟨i,x,h1,h2,h3⟩;exact⟨i+1,x,h1,by simpa using h2,h3⟩
   ·rintro⟨i,x,h1,h2,h3⟩
    cases i with
    |zero=>simp at h2;rw[<-h2,hq]at h3;cases h3
    |succ i=>exact⟨i,x,h1,by simpa using h2,h3⟩
  |false=>
   have e:Bw P n (o::l)=n::Bw P (n+1) l:=by simp only[Bw,hq]
   rw[e,List.mem_cons,tail]
   constructor
   ·rintro(rfl|⟨i,x,h1,h2,h3⟩)
    ·exact⟨0,o,by omega,rfl,hq⟩
    ·exact⟨i+1,x,h1,by simpa using h2,h3⟩
   ·rintro⟨i,x,h1,h2,h3⟩
    cases i with
    |zero=>exact .inl (by omega)
    |succ i=>exact .inr ⟨i,x,h1,by simpa using h2,h3⟩
theorem LL {bs louds:List Nat} {p:Nat×List Nat}:∀ {l:List Oper} {n:Nat},p∈EG P bs louds n l↔∃ i o,p=(n+i,PZ bs louds (n+i))/\l[i]? =some o/\quiet P o.op=true/\still P o.op=false
 |[],n=>by simp[EG]
 |o::l,n=>by
  have ih:=LL (bs:=bs) (louds:=louds) (p:=p) (l:=l) (n:=n+1)
  have tail:(p∈EG P bs louds (n+1) l)↔∃ i x,p=(n+(i+1),PZ bs louds (n+(i+1)))/\l[i]? =some x/\quiet P x.op=true/\still P x.op=false:=by
   rw[ih]
   constructor
   ·rintro⟨i,x,h1,h2⟩;exact⟨i,x,by rw[h1,show n+1+i=n+(i+1)by omega],h2⟩
   ·rintro⟨i,x,h1,h2⟩;exact⟨i,x,by rw[h1,show n+(i+1)=n+1+i by omega],h2⟩
  cases hq:(quiet P o.op&&!still P o.op)with
  |false=>
   have e:EG P bs louds n (o::l)=EG P bs louds (n+1) l:=by simp only[EG,hq]
   rw[e,tail]
   constructor
   ·rintro⟨i,x,h1,h2⟩;exact⟨i+1,x,h1,by simpa using h2⟩
   ·rintro⟨i,x,h1,h2,h3,h4⟩
    cases i with
    |zero=>simp at h2;subst h2;rw[h3,h4]at hq;cases hq
    |succ i=>exact⟨i,x,h1,by simpa using h2,h3,h4⟩
  |true=>
   have e:EG P bs louds n (o::l)=(n,PZ bs louds n)::EG P bs louds (n+1) l:=by simp only[EG,hq]
   rw[e,List.mem_cons,tail]
   simp only[Bool.and_eq_true,Bool.not_eq_true']at hq
   constructor
   ·rintro(rfl|⟨i,x,h1,h2⟩)
    ·exact⟨0,o,rfl,rfl,hq.1,hq.2⟩
    ·exact⟨i+1,x,h1,by simpa using h2⟩
   ·rintro⟨i,x,h1,h2⟩
    cases i with
    |zero=>exact .inl h1
    |succ i=>exact .inr ⟨i,x,h1,by simpa using h2⟩
theorem JI {l:List Oper} {j i:Nat} (h:JW (CS l []) j i=true):Reach l j i:=Iw l l [] rfl (fun j i h=>by simp at h) j i h
/--the premises,by what was compiled -/
theorem KY (hm:P.follows .mixedOrders=true) (hd:Bx ops.toList=true) {ld:List Nat} {cs:List (Nat×List Nat)} (ec:Eo P (CI P ops.toList (CS ops.toList [])) (CS ops.toList []) ops.toList=some (ld,cs)) {Ts:Nat->F} {Hs:Nat->H}
 (hst:∀ (i:Nat) o,ops[i]? =some o->BK P nt ops i o true (Ts i) (Ts (i+1)) (Hs i) (Hs (i+1))/\(quiet P o.op=true->Hs (i+1)=Hs i))
 (hck:∀ p∈cs,∀ o,ops[p.1]? =some o->∀ j∈p.2,BK P nt ops p.1 o true (Ts p.1) (Ts (p.1+1)) (Hs j) (Hs j)):
 Ak (Hs 0) (Hs ops.size)/\B.val (Hs 0).next<=B.val (Hs ops.size).next/\∀ ρ a w w0 (id:Nat) (Q:Exit->Act->World->Prop),CT ρ nt (Ts 0) a->Aw ρ (Hs 0) w w0->(∀ ρ' a' w',Ext (Hs 0).floor ρ ρ'->CT ρ' nt (Ts ops.size) a'->Aw ρ' (Hs ops.size) w' w0->Q .normal a' w')->(Code.region id ops true).wp P Q a w:=by
 unfold Eo at ec
 split at ec
 case h_2=>cases ec
 rename_i hb
 cases ec
 simp only[Bool.and_eq_true]at hb
 have hoq:∀ {i:Nat} {o},ops[i]? =some o↔ops.toList[i]? =some o:=fun {i o}=>by rw[Array.getElem?_toList]
 have hld:∀ {i:Nat} {o},ops[i]? =some o->quiet P o.op=false->i∈Bw P 0 ops.toList:=fun {i o} h1 h2=>GH.2 ⟨i,o,by omega,hoq.1 h1,h2⟩
 exact KM (nt:=nt) (ops:=ops) (Ts:=Ts) (Hs:=Hs) (lo:=fun k=>∃ o,ops[k]? =some o/\quiet P o.op=false) hm hd
  (fun i o ho=>⟨(hst i o ho).1.dst,(hst i o ho).1.rest⟩)
  (fun i j ⟨oi,hi,qi⟩ ⟨oj,hj,qj⟩ hij _=>by
    have:=hb.2
    unfold TK at this
    have:=(List.all_eq_true.1 ((List.all_eq_true.1 this) j (hld hj qj))) i (hld hi qi)
    rw[Bool.or_eq_true]at this
    rcases this with h|h
    ·have:=Nat.le_of_ble_eq_true h;omega
    ·exact JI h)
  (fun i o _ ho=>(hst i o ho).1)
  (fun i hi hl=>by
    have ho:ops[i]? =some (ops[i]'hi):=Array.getElem?_eq_getElem _
    refine(hst i _ ho).2 ?_
    cases hq:quiet P (ops[i]'hi).op with
    |true=>rfl
    |false=>exact absurd ⟨_,ho,hq⟩ hl)
  (fun i o hl ho=>by
    have hq:quiet P o.op=true:=by
     cases hq:quiet P o.op with
     |true=>rfl
     |false=>exact absurd ⟨_,ho,hq⟩ hl
    have S:=(hst i o ho).1
    refine⟨⟨_,_,S⟩,?_⟩
    cases hst2:still P o.op with
    |true=>exact .inl rfl
    |false=>
     refine .inr fun c hc d1 d2=>?_
     --the last one that is ahead of c
     have hex:∀ c,c<=ops.size->∃ j,(j=0\/∃ m,j=m+1/\m∈Bw P 0 ops.toList)/\j<=c/\Hs c=Hs j/\∀ k,(∃ o,ops[k]? =some o/\quiet P o.op=false)->k<c->k<j:=by
      intro c
      induction c with
      |zero=>intro _;exact⟨0,.inl rfl,Nat.le_refl _,rfl,fun k _ h=>by omega⟩
      |succ c ih=>
       intro hc
       have hoc:ops[c]? =some (ops[c]'(by omega)):=Array.getElem?_eq_getElem _
       cases hqc:quiet P (ops[c]'(by omega)).op with
       |true=>
        obtain⟨j,j1,j2,j3,j4⟩:=ih (by omega)
        refine⟨j,j1,by omega,by rw[(hst c _ hoc).2 hqc,j3],fun k hk hkc=>?_⟩
        by_cases e:k=c
        ·subst e
         obtain⟨o',h1,h2⟩:=hk
         rw[hoc]at h1;cases h1
         rw[hqc]at h2;cases h2
        ·exact j4 k hk (by omega)
       |false=>exact⟨c+1,.inr ⟨c,rfl,hld hoc hqc⟩,Nat.le_refl _,rfl,fun k _ hk=>hk⟩
     obtain⟨j,j1,j2,j3,j4⟩:=hex c hc
     have hj:j∈PZ (CS ops.toList []) (Bw P 0 ops.toList) i:=by
      unfold PZ
      rw[List.mem_filter]
      refine⟨?_,?_⟩
      ·rcases j1 with rfl|⟨m,rfl,hm⟩
       ·simp
       ·exact List.mem_cons_of_mem _ (List.mem_map_of_mem hm)
      ·unfold wS
       rw[List.all_eq_true]
       intro k hk
       obtain⟨k',ok,rfl,hk1,hk2⟩:=GH.1 hk
       rw[Nat.zero_add]
       have hlk:∃ o,ops[k']? =some o/\quiet P o.op=false:=⟨ok,hoq.2 hk1,hk2⟩
       rw[Bool.and_eq_true]
       constructor
       ·cases hbb:JW (CS ops.toList []) i k' with
        |false=>rfl
        |true=>
         have:=j4 k' hlk (d1 k' hlk (JI hbb))
         rw[Bool.not_true,Bool.false_or,Nat.ble_eq];omega
       ·cases hbb:JW (CS ops.toList []) k' i with
        |false=>rw[Bool.not_false,Bool.or_true]
        |true=>
         rw[Bool.not_true,Bool.or_false,Bool.not_eq_true']
         cases hle:Nat.ble (k'+1) j with
         |false=>rfl
         |true=>exact absurd (JI hbb) (d2 k' hlk (by have:=Nat.le_of_ble_eq_true hle;omega))
     rw[j3]
     exact hck (i,PZ (CS ops.toList []) (Bw P 0 ops.toList) i) (LL.2 ⟨i,o,by rw[Nat.zero_add],hoq.1 ho,hq,hst2⟩) o ho j hj)
/--WHAT THE EVALUATOR MAKES OF SUCH A REGION -/
theorem Pw (hm:P.follows .mixedOrders=true) (hcf:Fb P cf) (hd:Bx ops.toList=true) {ld:List Nat} {cs:List (Nat×List Nat)} (ec:Eo P (CI P ops.toList (CS ops.toList [])) (CS ops.toList []) ops.toList=some (ld,cs)) (bars:Nat->Bool)
 {t:F} {h:H} {k:F->H->Bool} (hk:I8 cf (AO bars P nt ops.toList (AU P) 0 ops.toList) cs t h k=true):
 ∃ t' h',(∀ k',I8 cf (AO bars P nt ops.toList (AU P) 0 ops.toList) cs t h k'=k' t' h')/\Ak h h'/\B.val h.next<=B.val h'.next/\
  ∀ ρ a w w0 (id:Nat) (Q:Exit->Act->World->Prop),CT ρ nt t a->Aw ρ h w w0->(∀ ρ' a' w',Ext h.floor ρ ρ'->CT ρ' nt t' a'->Aw ρ' h' w' w0->Q .normal a' w')->(Code.region id ops true).wp P Q a w:=by
 have hoq:∀ {i:Nat} {o},ops[i]? =some o↔ops.toList[i]? =some o:=fun {i o}=>by rw[Array.getElem?_toList]
 have hcs:cs=EG P (CS ops.toList []) (Bw P 0 ops.toList) 0 ops.toList:=by
  unfold Eo at ec
  split at ec
  ·cases ec;rfl
  ·cases ec
 unfold I8 at hk
 obtain⟨Ts,Hs,L,b1,b2,b3,b4,b5,b6⟩:=U9 hcf bars ops.toList 0 rfl t h _ hk
 rw[Nat.zero_add]at b3
 simp only[Nat.zero_add]at b4
 have hLL:∀ {j:Nat} {tj hj},((t,h)::L)[j]? =some (tj,hj)->tj=Ts j/\hj=Hs j:=fun {j tj hj} e=>by
  cases j with
  |zero=>cases e;exact⟨b1.symm,b2.symm⟩
  |succ m=>
   have hm:m<L.length:=(List.getElem?_eq_some_iff.1 e).1|>fun h=>by simpa using h
   rw[List.getElem?_cons_succ,b4 m (by omega)]at e
   cases e;exact⟨rfl,rfl⟩
 rw[b3]at hk
 obtain⟨c1,c2⟩:=N5 hcf bars (fun p hp=>by
  rw[hcs]at hp
  obtain⟨i,o,rfl,h2,h3,_⟩:=LL.1 hp
  exact⟨o,by rw[Nat.zero_add];exact hoq.2 h2,h3⟩) hk
 have R:=KY (nt:=nt) hm hd ec (fun i o ho=>⟨(b6 i o (Nat.zero_le _) ho).1,(b6 i o (Nat.zero_le _) ho).2.1⟩) (fun p hp o ho j hj=>by
  obtain⟨ti,hi,b,e1,e2⟩:=c2 p hp o ho
  obtain⟨rfl,rfl⟩:=hLL e1
  obtain⟨tj,hj',t',g1,g2,g3⟩:=e2 j hj
  obtain⟨rfl,rfl⟩:=hLL g1
  have e4:t'=Ts (p.1+1):=by
   have:=(b6 p.1 o (Nat.zero_le _) ho).2.2 b (fun t h k=>k t h)
   exact(UR fun k=>(this k).symm.trans (g3 (fun t h k=>k t h) k)).1
  rw[e4]at g2
  exact g2)
 have hlen:ops.toList.length=ops.size:=by simp
 rw[hlen]at b3
 obtain⟨R1,R2,R3⟩:=R
 rw[b2]at R1 R2 R3
 refine⟨Ts ops.size,Hs ops.size,fun k'=>?_,R1,R2,fun ρ a w w0 id Q A R hQ=>R3 ρ a w w0 id Q (by rw[b1];exact A) R hQ⟩
 unfold I8
 rw[b3,c1]
end
end
end Go.Ev
namespace Go.Ev
open Go
theorem Rh {tb:Nat->Option Sp} {P:Program} (htb:Rd P tb) (hm:P.follows .mixedOrders=true) {n:Nat} (hE:cX tb P n) (nt id:Nat) (ops:Array Oper) (draw:Bool) (t:F) (h:H) (k:X->F->H->Bool)
 (hk:exec tb (AY P) (n+1) (comp P nt (.region id ops draw)) t h k=true):
 ∃ x t' h',(∀ k',exec tb (AY P) (n+1) (comp P nt (.region id ops draw)) t h k'=k' x t' h')/\Ak h h'/\B.val h.next<=B.val h'.next/\D2 P nt (.region id ops draw) t h x t' h':=by
 cases draw with
 |false=>
  cases hc:Hz 0 ops.toList with
  |none=>
   have e0:comp P nt (.region id ops false)=.region (AO (fun _=>true) P nt ops.toList (AU P) 0 ops.toList):=by
    show Am P nt ops.toList false=_
    simp only[Am,hc]
   have e:∀ k',exec tb (AY P) (n+1) (comp P nt (.region id ops false)) t h k'=Bu (Fo tb (exec tb (AY P) n) (AY P)) (AO (fun _=>true) P nt ops.toList (AU P) 0 ops.toList) t h (Nz k'):=fun k'=>by rw[e0];rfl
   rw[e]at hk
   obtain⟨t',h',a1,a2,a3,a4⟩:=S3 (Oc htb hE) (fun _=>true) ops.toList 0 (by simp) t h _ hk
   refine⟨.normal,t',h',fun k'=>by rw[e,a1];rfl,a2,a3,fun ρ a w w0 Q A R hQ=>?_⟩
   refine wp_region ?_
   have:=a4 ρ a w w0 Q A R hQ
   rwa [show List.range' 0 ops.toList.length=List.range ops.size by rw[List.range_eq_range'];simp]at this
  |some n=>
   have e0:comp P nt (.region id ops false)=EO P nt ops.toList n:=by
    show Am P nt ops.toList false=_
    simp only[Am,hc]
   obtain⟨j,rfl,hj⟩:=Lc hc
   rw[Nat.zero_add]at e0
   have hj':j<ops.size:=by simpa using hj
   obtain⟨⟨dst,op,e1,e2,e3,g⟩,ho⟩:∃ o,ops[j]? =some o:=⟨ops[j],by simp[hj']⟩
   have ho':ops.toList[j]? =some ⟨dst,op,e1,e2,e3,g⟩:=by simpa using ho
   cases g with
   |some g=>
    have e:comp P nt (.region id ops false)=.bad:=by rw[e0];simp only[EO,ho']
    rw[e]at hk;exact Bool.noConfusion hk
   |none=>
    have e:comp P nt (.region id ops false)=.comm (AO (fun _=>true) P nt ops.toList (AU P) 0 (ops.toList.take j)) (JO P op) (Ce nt dst) (AO (fun _=>true) P nt ops.toList (AU P) (j+1) (ops.toList.drop (j+1))):=by
     rw[e0];simp only[EO,ho']
    rw[e]at hk
    obtain⟨t',h',a1,a2,a3,a4⟩:=NX (id:=id) (Oc htb hE) ho (Ri P _) (k:=k) hk
    exact⟨.normal,t',h',fun k'=>by rw[e];exact a1 k',a2,a3,a4⟩
 |true=>
  cases hd:Bx ops.toList with
  |false=>
   have e:comp P nt (.region id ops true)=.bad:=by
    show Am P nt ops.toList true=.bad
    simp only[Am,hd]
   rw[e]at hk;exact Bool.noConfusion hk
  |true=>
   have e0:comp P nt (.region id ops true)=.Bg (AO (CI P ops.toList (CS ops.toList [])) P nt ops.toList (AU P) 0 ops.toList) (Eo P (CI P ops.toList (CS ops.toList [])) (CS ops.toList []) ops.toList):=by
    show Am P nt ops.toList true=_
    simp only[Am,hd]
   cases hc:Eo P (CI P ops.toList (CS ops.toList [])) (CS ops.toList []) ops.toList with
   |none=>
    have e:∀ k',exec tb (AY P) (n+1) (comp P nt (.region id ops true)) t h k'=DU (Fo tb (exec tb (AY P) n) (AY P)) (AO (CI P ops.toList (CS ops.toList [])) P nt ops.toList (AU P) 0 ops.toList) t h (Nz k'):=by
     intro k';rw[e0,hc];rfl
    rw[e]at hk
    obtain⟨t',h',a1,a2,a3,a4⟩:=Ni hm (Oc htb hE) hd hk
    exact⟨.normal,t',h',fun k'=>by rw[e,a1];rfl,a2,a3,fun ρ a w w0 Q A R hQ=>a4 ρ a w w0 id Q A R hQ⟩
   |some cs=>
    obtain⟨ld,cs⟩:=cs
    have e:∀ k',exec tb (AY P) (n+1) (comp P nt (.region id ops true)) t h k'=I8 (Fo tb (exec tb (AY P) n) (AY P)) (AO (CI P ops.toList (CS ops.toList [])) P nt ops.toList (AU P) 0 ops.toList) cs t h (Nz k'):=by
     intro k';rw[e0,hc];rfl
    rw[e]at hk
    obtain⟨t',h',a1,a2,a3,a4⟩:=Pw hm (Oc htb hE) hd hc _ hk
    exact⟨.normal,t',h',fun k'=>by rw[e,a1];rfl,a2,a3,fun ρ a w w0 Q A R hQ=>a4 ρ a w w0 id Q A R hQ⟩
theorem Wm {tb:Nat->Option Sp} {P:Program} (htb:Rd P tb) (hm:P.follows .mixedOrders=true):∀ n,cX tb P n/\si tb P n:=by
 intro n
 induction n with
 |zero=>exact⟨fun nt c t h k hk=>Bool.noConfusion hk,fun nt c t h k hk=>Bool.noConfusion hk⟩
 |succ n ih=>
  obtain⟨hE,hL⟩:=ih
  have hLp:si tb P (n+1):=by
   intro nt c t h k hk
   have e:∀ k',exec tb (AY P) (n+1) (.loop (comp P nt c)) t h k'=exec tb (AY P) n (comp P nt c) t h (TO (exec tb (AY P) n) (comp P nt c) k'):=fun _=>rfl
   rw[e]at hk
   obtain⟨x,t1,h1,a1,a2,a3,a4⟩:=hE nt c t h _ hk
   rw[a1]at hk
   cases x with
   |normal=>
    have e2:∀ k',TO (exec tb (AY P) n) (comp P nt c) k' .normal t1 h1=exec tb (AY P) n (.loop (comp P nt c)) t1 h1 k':=fun _=>rfl
    rw[e2]at hk
    obtain⟨x2,t2,h2,b1,b2,b3,b4⟩:=hL nt c t1 h1 k hk
    refine⟨x2,t2,h2,fun k'=>by rw[e,a1,e2,b1],Ak.trans a2 a3 b2,Nat.le_trans a3 b3,fun ρ a w w0 Q A R hQ=>?_⟩
    refine DH (a4 ρ a w w0 _ A R fun ρ' a' w' l1 A' R'=>?_)
    exact b4 ρ' a' w' w0 Q A' R' fun ρ'' a'' w'' l2 A'' R''=>hQ ρ'' a'' w'' (l1.trans (by rw[<-a2.1];exact l2)) A'' R''
   |exit id=>
    refine⟨.exit id,t1,h1,fun k'=>by rw[e,a1];rfl,a2,a3,fun ρ a w w0 Q A R hQ=>?_⟩
    exact DH (a4 ρ a w w0 _ A R fun ρ' a' w' l1 A' R'=>hQ ρ' a' w' l1 A' R')
   |ret=>
    refine⟨.ret,t1,h1,fun k'=>by rw[e,a1];rfl,a2,a3,fun ρ a w w0 Q A R hQ=>?_⟩
    exact DH (a4 ρ a w w0 _ A R fun ρ' a' w' l1 A' R'=>hQ ρ' a' w' l1 A' R')
  refine⟨fun nt c=>?_,hLp⟩
  induction c with
  |skip=>intro t h k hk;exact⟨.normal,t,h,fun _=>rfl,Ak.refl h,Nat.le_refl _,fun ρ a w w0 Q A R hQ=>wp_skip (hQ ρ a w (Ext.refl _ ρ) A R)⟩
  |label l=>intro t h k hk;exact⟨.normal,t,h,fun _=>rfl,Ak.refl h,Nat.le_refl _,fun ρ a w w0 Q A R hQ=>wp_label (hQ ρ a w (Ext.refl _ ρ) A R)⟩
  |exit id=>intro t h k hk;exact⟨.exit id,t,h,fun _=>rfl,Ak.refl h,Nat.le_refl _,fun ρ a w w0 Q A R hQ=>wp_exit (hQ ρ a w (Ext.refl _ ρ) A R)⟩
  |ret=>intro t h k hk;exact⟨.ret,t,h,fun _=>rfl,Ak.refl h,Nat.le_refl _,fun ρ a w w0 Q A R hQ=>wp_ret (hQ ρ a w (Ext.refl _ ρ) A R)⟩
  |goto l=>intro t h k hk;exact Bool.noConfusion hk
  |refuse s=>intro t h k hk;exact Bool.noConfusion hk
  |rangeFunc f ps x y ihx ihy=>intro t h k hk;exact Bool.noConfusion hk
  |region id ops draw=>intro t h k hk;exact Rh htb hm hE nt id ops draw t h k hk
  |loop c ihc=>
   intro t h k hk
   obtain⟨x,t',h',a1,a2,a3,a4⟩:=hLp nt c t h k hk
   exact⟨x,t',h',a1,a2,a3,fun ρ a w w0 Q A R hQ=>K7 (a4 ρ a w w0 Q A R hQ)⟩
  |scope c ihc=>
   intro t h k hk
   obtain⟨x,t',h',a1,a2,a3,a4⟩:=ihc t h k hk
   refine⟨x,t',h',a1,a2,a3,fun ρ a w w0 Q A R hQ=>wp_scope_straight (a4 ρ a w w0 _ A R fun ρ' a' w' l1 A' R'=>?_)⟩
   have:=hQ ρ' a' w' l1 A' R'
   cases x<;>exact this
  |seq c1 c2 ih1 ih2=>
   intro t h k hk
   have e:∀ k',exec tb (AY P) (n+1) (comp P nt (.seq c1 c2)) t h k'=exec tb (AY P) n (comp P nt c1) t h (eY (exec tb (AY P) n) (comp P nt c2) k'):=fun _=>rfl
   rw[e]at hk
   obtain⟨x,t1,h1,a1,a2,a3,a4⟩:=hE nt c1 t h _ hk
   rw[a1]at hk
   cases x with
   |normal=>
    have e2:∀ k',eY (exec tb (AY P) n) (comp P nt c2) k' .normal t1 h1=exec tb (AY P) n (comp P nt c2) t1 h1 k':=fun _=>rfl
    rw[e2]at hk
    obtain⟨x2,t2,h2,b1,b2,b3,b4⟩:=hE nt c2 t1 h1 k hk
    refine⟨x2,t2,h2,fun k'=>by rw[e,a1,e2,b1],Ak.trans a2 a3 b2,Nat.le_trans a3 b3,fun ρ a w w0 Q A R hQ=>?_⟩
    refine wp_seq (a4 ρ a w w0 _ A R fun ρ' a' w' l1 A' R'=>?_)
    exact b4 ρ' a' w' w0 Q A' R' fun ρ'' a'' w'' l2 A'' R''=>hQ ρ'' a'' w'' (l1.trans (by rw[<-a2.1];exact l2)) A'' R''
   |exit id=>
    refine⟨.exit id,t1,h1,fun k'=>by rw[e,a1];rfl,a2,a3,fun ρ a w w0 Q A R hQ=>?_⟩
    exact wp_seq (a4 ρ a w w0 _ A R fun ρ' a' w' l1 A' R'=>hQ ρ' a' w' l1 A' R')
   |ret=>
    refine⟨.ret,t1,h1,fun k'=>by rw[e,a1];rfl,a2,a3,fun ρ a w w0 Q A R hQ=>?_⟩
    exact wp_seq (a4 ρ a w w0 _ A R fun ρ' a' w' l1 A' R'=>hQ ρ' a' w' l1 A' R')
  |cond c c1 c2 ih1 ih2=>
   intro t h k hk
   have e:∀ k',exec tb (AY P) (n+1) (comp P nt (.cond c c1 c2)) t h k'=oE (AI c) t fun c'=>vB c' fun b=>X7 b (exec tb (AY P) n) (comp P nt c1) (comp P nt c2) t h k':=fun _=>rfl
   rw[e,AN]at hk
   obtain⟨b,hb,hk⟩:=IZ hk
   have hev:∀ ρ a,CT ρ nt t a->a.eval c=.bool b:=fun ρ a A=>by
    have:=KK A c
    rw[hb]at this;exact this
   cases b with
   |true=>
    have hk':exec tb (AY P) n (comp P nt c1) t h k=true:=hk
    obtain⟨x,t1,h1,a1,a2,a3,a4⟩:=hE nt c1 t h k hk'
    exact⟨x,t1,h1,fun k'=>by rw[e,AN,hb,Ud];exact a1 k',a2,a3,fun ρ a w w0 Q A R hQ=>wp_cond_true (hev ρ a A) (a4 ρ a w w0 Q A R hQ)⟩
   |false=>
    have hk':exec tb (AY P) n (comp P nt c2) t h k=true:=hk
    obtain⟨x,t1,h1,a1,a2,a3,a4⟩:=hE nt c2 t h k hk'
    exact⟨x,t1,h1,fun k'=>by rw[e,AN,hb,Ud];exact a1 k',a2,a3,fun ρ a w w0 Q A R hQ=>wp_cond_false (hev ρ a A) (a4 ρ a w w0 Q A R hQ)⟩
  |block id c ihc=>
   intro t h k hk
   have e:∀ k',exec tb (AY P) (n+1) (comp P nt (.block id c)) t h k'=exec tb (AY P) n (comp P nt c) t h (O7 id k'):=fun _=>rfl
   rw[e]at hk
   obtain⟨x,t1,h1,a1,a2,a3,a4⟩:=hE nt c t h _ hk
   cases x with
   |normal=>exact⟨.normal,t1,h1,fun k'=>by rw[e,a1];rfl,a2,a3,fun ρ a w w0 Q A R hQ=>wp_block (a4 ρ a w w0 _ A R fun ρ' a' w' l1 A' R'=>hQ ρ' a' w' l1 A' R')⟩
   |ret=>exact⟨.ret,t1,h1,fun k'=>by rw[e,a1];rfl,a2,a3,fun ρ a w w0 Q A R hQ=>wp_block (a4 ρ a w w0 _ A R fun ρ' a' w' l1 A' R'=>hQ ρ' a' w' l1 A' R')⟩
   |exit j=>
    have e2:∀ k',O7 id k' (.exit j) t1 h1=VX (Nat.beq j id) j k' t1 h1:=fun _=>rfl
    cases hj:Nat.beq j id with
    |true=>
     have hji:j=id:=Nat.eq_of_beq_eq_true hj
     refine⟨.normal,t1,h1,fun k'=>by rw[e,a1,e2,hj];rfl,a2,a3,fun ρ a w w0 Q A R hQ=>wp_block (a4 ρ a w w0 _ A R fun ρ' a' w' l1 A' R'=>?_)⟩
     show(if j=id then Q .normal a' w' else Q (.exit j) a' w')
     rw[if_pos hji];exact hQ ρ' a' w' l1 A' R'
    |false=>
     have hji:¬j=id:=fun h=>by rw[h]at hj;simp at hj
     refine⟨.exit j,t1,h1,fun k'=>by rw[e,a1,e2,hj];rfl,a2,a3,fun ρ a w w0 Q A R hQ=>wp_block (a4 ρ a w w0 _ A R fun ρ' a' w' l1 A' R'=>?_)⟩
     show(if j=id then Q .normal a' w' else Q (.exit j) a' w')
     rw[if_neg hji];exact hQ ρ' a' w' l1 A' R'
def Se:BF:=fun _ _=>none
theorem RY (w:World):Aw Se H.zero w w:=
 ⟨fun _ _ _ h=>(by cases h),fun _ _ _ h=>(by cases h),fun _ _ _ _ _ _ h=>(by cases h),Nat.le_refl _,fun _ _=>rfl,fun _ _ _ h=>(by cases h),rfl,rfl,rfl,Nat.le_refl _,fun _ _ _ h=>(by cases h),fun _ _ _ _ _ h=>(by cases h)⟩
theorem Aw.same {ρ:BF} {h:H} {w w0:World} (R:Aw ρ h w w0):UM w0 w:=⟨R.IH,R.I1,R.tp,R.os,R.out⟩
theorem UM.below {w w':World} (R:UM w w'):RowKit.Below w.heap.size w w':=⟨R.2.2.2.1,R.2.2.1,R.2.2.2.2,R.2.1,R.1⟩
/--WHAT A RUN SAYS:where the evaluator comes to 'true',so does the model's call,whatever the world,and of what was there nothing turns. -/
theorem runs {tb:Nat->Option Sp} {P:Program} (htb:Rd P tb) (hm:P.follows .mixedOrders=true) {n:Nat} {f:FuncId} {vs:List V} (h:TI tb P n f vs=true) {args:List Value} (ha:BG Se vs args) (w:World):
 (callFunc f args.toArray).run P w=.ok (.enter f args.toArray) w/\Calls P f args.toArray w fun e w'=>e=.returned (.bool true)/\UM w w':=by
 obtain⟨v,h',h1,h2,h3,h4⟩:=Oc htb (Wm htb hm n).1 f vs H.zero isTrue h
 have ht:isTrue v h'=true:=by
  have:=h1 isTrue
  rw[<-this];exact h
 obtain⟨b,hb,hbt⟩:=IZ ht
 obtain⟨c1,c2⟩:=h4 Se w w args ha (RY w)
 refine⟨c1,c2.mono fun e w' he=>?_⟩
 obtain⟨x,rfl,ρ',_,x2,x3⟩:=he
 rw[hb]at x2
 have x2':x=.bool b:=x2
 rw[x2',hbt]
 exact⟨rfl,x3.same⟩
theorem WX (P:Program):Rd P l9:=fun _ _ h=>by cases h
/--a function without parameters that was run once need not be run again -/
theorem Vz {tb:Nat->Option Sp} {P:Program} (htb:Rd P tb) (hm:P.follows .mixedOrders=true) {n:Nat} {f:FuncId} (h:TI tb P n f []=true):Kb P f:=
 fun w=>runs htb hm h (args:=[]) trivial w
end Go.Ev
namespace Go.Ev
open Go
section
open Go.RowKit Go.WideShapes Go.ChangeShapes
variable {H:Type} {enc:TypeId×Value->H} {P:Program}
/--THE ROW's LAST STEP,where of what was there nothing turned (new blocks may be frozen). -/
theorem R9 {f:Func} {s:ChangeSpec} {apart fresh handsOn again:Bool} {W W':World} {args:Array Value} {v:Value} {ds gs:List (DataW H)} {before pa pv:List MemPlace} (hb:Below W.heap.size W W')
 (hW:DataW.Whole enc P f.params.toList s.vars apart W args.toList ds gs before)
 (hres:∀ (b:Nat) (sp:Nat->Bool) (hd:Bool),DataW.TrodAll enc P W' b sp hd f.resultTypes.toList (v.resultList f.resultTypes.size) (s.fn H (ds++gs)).results [])
 (hargs:∀ sp:Nat->Bool,(∀ p∈before,sp p.block=true)->DataW.TrodAll enc P W' 0 sp true f.params.toList args.toList (s.fn H (ds++gs)).args pa)
 (hvars:∀ sp:Nat->Bool,(∀ p∈before,sp p.block=true)->DataW.TrodVars enc P W' sp s.vars (s.fn H (ds++gs)).vars pv)
 (hps:before=pa++pv)
 (hok:∀ (j:Nat) (t:TypeId) (r:Value),f.resultTypes[j]? =some t->(v.resultList f.resultTypes.size)[j]? =some r->Value.okWide P W' .any 0 t r):
 s.post enc P f apart fresh handsOn again W args v W':=by
 have hlt:=fun p hp=>hW.lt p hp
 have hin:∀ p∈before,(fun b=>decide (b<W.heap.size)) p.block=true:=fun p hp=>decide_eq_true (hlt p hp)
 have hkept:=hb.frame (·∈before)
 refine⟨ds,gs,before,[],pa,pv,hW,hres _ _ _,hargs _ hin,hvars _ hin,World.keptBut_mono (fun p hp=>⟨hp,?_⟩) hkept,fun _=>?_⟩
 ·have:=hps▸hp
  exact .inr (List.mem_append.1 this)
 ·obtain⟨_,_,_,_,_,hz,hn⟩:=hW
  refine⟨hok,_,_,([]++pa)++pv,⟨[]++pa,pv,trodAll_append (hargs _ fun _ _=>rfl) (hres _ _ _),hvars _ fun _ _=>rfl,rfl,fun b off hp=>?_,fun ha=>?_⟩,fun p hp _=>?_⟩
  ·have hp':MemPlace.cell b off∈before:=by rw[hps];simpa using hp
   rw[hb.frozen (hlt _ hp')]
   exact hz b off hp'
  ·have hn':=hn ha
   rw[hps]at hn'
   simpa using hn'
  ·rw[hps];simpa using hp
end
end Go.Ev
end
