/- The law ChooseTells, part 2: what its proof uses, closely written. No condition. -/
import Derived.Test.YtobfgempjekjpaaMnChooseTells1
import Derived.Scope
import Derived.HandedShaped
import Derived.Carry
import Derived.OpenShut
import Derived.Deep.Slices
import Derived.SliceStrings
noncomputable section
set_option linter.all false
namespace Go.Ev
open Go
/--the world,with another count of Az -/
def dr (w:World) (d:Nat):World:={w with drawn:=d}
theorem A8.dr {ρ:BC} {h:H} {w w0:World} (R:A8 ρ h w w0) (d:Nat):A8 ρ h (dr w d) w0:=
 ⟨R.loc,R.ids,R.sep,R.Kw,R.H0,R.up,R.tp,R.os,R.out,R.JN,R.mp,R.Mo⟩
theorem LC (n:Nat):∀ (r c:Nat),Builtin.growBy n r c<=max c (n+(n+768)/4)
 |0,c=>Nat.le_max_left _ _
 |r+1,c=>by
  unfold Builtin.growBy
  split
  ·exact Nat.le_max_left _ _
  ·have:=LC n r (c+(c+768)/4)
   omega
theorem Nz (need cap:Nat) (h:cap<need):Builtin.nextslicecap need cap<=2*need+192:=by
 unfold Builtin.nextslicecap
 split
 ·omega
 ·split
  ·omega
  ·have:=LC need 4 cap
   omega
theorem EB (P:Program) (w w2:World) (t t' ty elem e':TypeId) (i:TypeInfo) (base:Option Addr) (sLen sCap n:Nat) (x:Value) (new:Array Value)
 (hu:P.underlying t=some (.slice elem)) (hu':P.underlying t'=some (.slice e')\/P.underlying t'=some .string) (hi:P.info? elem=some i) (hl:(Builtin.lenOf x).run P w=.ok n w)
 (hc:sLen+n<=sCap) (hnew:(Builtin.firstCells i.size n x).run P w=.ok new w)
 (hst:∀ a,base=some a->(storeCells (a.add (sLen*i.size)) new.toList).run P w=.ok () w2) (hno:base=none->w2=w):
 (Builtin.append_ #[t,t'] ty #[.slice base sLen sCap,x]).run P w=.ok (.slice base (sLen+n) sCap) w2:=by
 unfold Builtin.append_
 rcases hu' with hu'|hu'<;>simp only[List.getElem?_toArray,List.getElem?_cons_zero,List.getElem?_cons_succ,Sem.run_bind,run_underlying hu,run_underlying hu',Result.andThen_ok,Aw hi,Sem.run_pure',Bool.false_eq_true,if_false,hl,Bool.not_false,if_true,hc,hnew]
 all_goals cases base with
 |none=>rw[hno rfl];rfl
 |some a=>simp only[Sem.run_bind,hst a rfl,Result.andThen_ok];rfl
theorem Eh (P:Program) (w:World) (t t' ty elem e':TypeId) (i:TypeInfo) (zv:Value) (base:Option Addr) (sLen sCap n:Nat) (x:Value) (H0 new:Array Value)
 (hu:P.underlying t=some (.slice elem)) (hu':P.underlying t'=some (.slice e')\/P.underlying t'=some .string) (hi:P.info? elem=some i) (hz:i.zero=some zv) (hl:(Builtin.lenOf x).run P w=.ok n w)
 (hc:¬sLen+n<=sCap) (hb:sLen+n<=1048576) (hby:i.bytes<=65536)
 (hold:(Builtin.firstCells i.size sLen (.slice base sLen sCap)).run P (dr w (w.drawn+1))=.ok H0 (dr w (w.drawn+1)))
 (hnew:(Builtin.firstCells i.size n x).run P (dr w (w.drawn+1))=.ok new (dr w (w.drawn+1))):
 ∃ newCap,sLen+n<=newCap/\(Builtin.append_ #[t,t'] ty #[.slice base sLen sCap,x]).run P w=
  .ok (.slice (some ⟨w.heap.size,0,none⟩) (sLen+n) newCap) ((dr w (w.drawn+1)).alloc (.cells (H0++new++Builtin.zeroCells zv.cells (newCap-(sLen+n))) elem)):=by
 refine⟨(Question.appendCap (sLen+n) sCap elem).cut (w.tape w.drawn (Question.appendCap (sLen+n) sCap elem)),by simp[Question.cut],?_⟩
 unfold Builtin.append_
 rcases hu' with hu'|hu'<;>simp only[List.getElem?_toArray,List.getElem?_cons_zero,List.getElem?_cons_succ,Sem.run_bind,run_underlying hu,run_underlying hu',Result.andThen_ok,Aw hi,Sem.run_pure',Bool.false_eq_true,if_false,hl,Bool.not_false,if_true,hc,
  DN hi]
 all_goals
  have h1:¬((sLen+n:Nat):Int)>IntKind.i64.max:=by
   have:IntKind.i64.max=9223372036854775807:=by decide
   omega
  have h2:¬Builtin.nextslicecap (sLen+n) sCap*i.bytes>2 ^ 48:=by
   have:=Nz (sLen+n) sCap (by omega)
   have h3:=Nat.mul_le_mul (show Builtin.nextslicecap (sLen+n) sCap<=2097344 by omega) hby
   omega
  rw[if_neg (by rintro⟨h,_⟩;exact h1 h)]
  simp only[Sem.run_bind,DN hi,Result.andThen_ok]
  rw[if_neg h2]
  have hch:(choose (Question.appendCap (sLen+n) sCap elem)).run P w=.ok ((Question.appendCap (sLen+n) sCap elem).cut (w.tape w.drawn (Question.appendCap (sLen+n) sCap elem))) (dr w (w.drawn+1)):=rfl
  simp only[Sem.run_bind,hch,Result.andThen_ok]
  have hroom:∀ b,(askRoom b).run P (dr w (w.drawn+1))=.ok () (dr w (w.drawn+1)):=by
   intro b;unfold askRoom;split<;>rfl
  simp only[DN hi,hroom,Result.andThen_ok,hold,hnew,Ca hi hz]
  rfl
theorem M6 {size:Nat} {x:V} {h:H} {k:Nat->List V->Bool} (hk:DL size x h k=true):
 ∃ n vs,(∀ k',DL size x h k'=k' n vs)/\vs.length=n*size/\∀ ρ xv,A1 ρ x xv->(∀ (P:Program) w,(Builtin.lenOf xv).run P w=.ok n w)/\
  ∀ w w0,A8 ρ h w w0->∃ new:Array Value,BJ ρ vs new.toList/\∀ (P:Program),(Builtin.firstCells size n xv).run P w=.ok new w:=by
 rcases ET hk with⟨hv,hk⟩|⟨id,g,off,len,fin,cap,hv,hk⟩
 ·subst hv
  refine⟨0,[],fun k'=>rfl,by simp,fun ρ xv hx=>?_⟩
  have hx':xv=.slice none 0 0:=hx
  subst hx'
  exact⟨fun P w=>rfl,fun w w0 R=>⟨#[],trivial,fun P=>rfl⟩⟩
 ·subst hv
  cases len with
  |zero=>
   refine⟨0,[],fun k'=>rfl,by simp,fun ρ xv hx=>?_⟩
   obtain⟨L,ad,c,l1,rfl,lc,l3,l4,l5,l6,l7⟩:=hx
   exact⟨fun P w=>rfl,fun w w0 R=>⟨#[],trivial,fun P=>by unfold Builtin.firstCells;rw[Nat.zero_mul];rfl⟩⟩
  |succ len=>
  have hk:Bk h id g off fin (Nat.mul (len+1) size) (fun vs=>k (len+1) vs)=true:=hk
  obtain⟨vs,h1,h2,h3⟩:=EI hk
  refine⟨len+1,vs,fun k'=>by show Bk h id g off fin (Nat.mul (len+1) size) (fun vs=>k' (len+1) vs)=_;rw[h1],h2,fun ρ xv hx=>?_⟩
  obtain⟨L,ad,c,l1,rfl,lc,l3,l4,l5,l6,l7⟩:=hx
  refine⟨fun P w=>rfl,fun w w0 R=>?_⟩
  obtain⟨xs,x1,x2,x3⟩:=h3 ρ w w0 L R l1 l3 l4
  rcases l5 with⟨h0,_⟩|rfl
  ·omega
  ·exact⟨xs.toArray,by simpa using x1,fun P=>by unfold Builtin.firstCells;exact x2 P⟩
theorem IB {x:V} {k:Nat->List V->Bool} (hk:Ee x k=true):
 ∃ n vs,(∀ k',Ee x k'=k' n vs)/\vs.length=n*1/\∀ ρ xv,A1 ρ x xv->(∀ (P:Program) w,(Builtin.lenOf xv).run P w=.ok n w)/\
  ∃ new:Array Value,BJ ρ vs new.toList/\∀ (P:Program) (w:World),(Builtin.firstCells 1 n xv).run P w=.ok new w:=by
 obtain⟨l,n,rfl,hk2⟩:=EH hk
 refine⟨l,Ta l n [],fun k'=>by simp only[Ee,Hd,JP],by simp[HG],fun ρ xv hx=>?_⟩
 obtain⟨bs,rfl,e1,e2,e3⟩:=Gc hx
 refine⟨fun P w=>by rw[<-e3];rfl,((bs.extract 0 l).data.map fun b=>.int .u8 b.toNat),?_,fun P w=>rfl⟩
 have e4:(bs.extract 0 l).data.toList=bs.data.toList:=by
  rw[ByteArray.data_extract,Array.toList_extract,List.extract_eq_take_drop]
  rw[List.drop_zero,List.take_of_length_le (by omega)]
 rw[<-e2,Nq l bs.data.toList [] e1,List.append_nil,Array.toList_map,e4]
 exact K3 ρ _
/--'append' UX which the walk goes:what it makes of the slice and the new cells -/
def GK (P:Program) (t t' ty elem:TypeId) (s x:V) (h:H) (v:V) (h':H):Prop:=
 ∀ ρ w w0 sv xv,A8 ρ h w w0->A1 ρ s sv->A1 ρ x xv->∃ y w',(Builtin.append_ #[t,t'] ty #[sv,xv]).run P w=.ok y w'/\Sv h.floor ρ w0 v h' y w'
theorem K7 {p s off m:Nat} (h:p<off+m) (hs:s<=off) (hp:s<=p):p-s<off-s+m:=by omega
theorem aF {off s m fin p:Nat} (h1:off+m=fin) (h2:s<=off) (h3:fin<=p):off-s+m+(p-fin)=p-s:=by omega
theorem iK {off s p:Nat} (h:s<=off) (h2:off<=p):off-s+(p-off)=p-s:=by omega
theorem Et {p f n:Nat} (h:p<f+n) (h2:f<=p):p-f<n:=by omega
theorem Hb {cur min min' g' fin sz:Nat} (h:(fin=sz/\min'=min)\/min'=cur+1) (hg:g'<=cur) (hm:min'<=g'):fin=sz/\min<=g':=by omega
theorem OZ {cur min min' g' fin sz:Nat} (h:(fin=sz/\min'=min)\/min'=cur+1) (hg:min<=cur) (hm:min'<=g'\/cur+1<min'):min'<=g':=by omega
theorem E3 (z:Array Value) (n:Nat):(Builtin.zeroCells z n).size=n*z.size:=by simp[Builtin.zeroCells]
section
variable {P:Program} {t t' ty elem e':TypeId} {i:TypeInfo}
variable (hu:P.underlying t=some (.slice elem)) (hu':P.underlying t'=some (.slice e')\/P.underlying t'=some .string) (hi:P.info? elem=some i) (hz:(zeroOf i.zero).length=i.size) (hs1:1<=i.size) (hby:i.bytes<=65536)
include hu hu' hi hz hs1 hby
omit hu hu' hi hz hs1 hby in
theorem Lx {n:Nat} {z:Unit->Bool} {k:Nat->Bool} (h:HS n z k=true):(n=0/\z ()=true)\/(∃ m,n=m+1/\k n=true):=by
 cases n with
 |zero=>exact .inl ⟨rfl,h⟩
 |succ m=>exact .inr ⟨m,rfl,h⟩
omit hu hu' hi hz hs1 hby in
@[simp] theorem Kn (z:Unit->Bool) (k:Nat->Bool):HS 0 z k=z ():=rfl
omit hu hu' hi hz hs1 hby in
@[simp] theorem Dx (n:Nat) (z:Unit->Bool) (k:Nat->Bool):HS (n+1) z k=k (n+1):=rfl
theorem QQ {x:V} {n:Nat} {vs:List V} {h:H} {k:V->H->Bool} (hk:J9 elem n vs h k=true) (hlen:vs.length=n*i.size)
 (hx:∀ ρ xv,A1 ρ x xv->(∀ (P:Program) w,(Builtin.lenOf xv).run P w=.ok n w)/\∀ w w0,A8 ρ h w w0->∃ new:Array Value,BJ ρ vs new.toList/\∀ (P:Program),(Builtin.firstCells i.size n xv).run P w=.ok new w):
 ∃ v h',(∀ k',J9 elem n vs h k'=k' v h')/\Ax h h'/\B.val h.next<=B.val h'.next/\GK P t t' ty elem .l0 x h v h':=by
 cases n with
 |zero=>
  refine⟨.l0,h,fun k'=>rfl,Ax.refl h,Nat.le_refl _,fun ρ w w0 sv xv R hsv hxv=>?_⟩
  have hsv':sv=.slice none 0 0:=hsv
  subst hsv'
  obtain⟨x1,x2⟩:=hx ρ xv hxv
  obtain⟨new,n1,n2⟩:=x2 w w0 R
  exact⟨_,_,EB P w w t t' ty elem e' i none 0 0 0 xv new hu hu' hi (x1 P w) (Nat.le_refl _) (n2 P) (fun a ha=>by cases ha) (fun _=>rfl),ρ,Ext.refl _ ρ,rfl,R⟩
 |succ m=>
  simp only[J9,Dx]at hk
  obtain⟨hb,hk⟩:=AW hk
  obtain⟨h',g1,g2,g3,g4⟩:=Ei hk
  have hb':m+1<=1048576:=Nat.le_of_ble_eq_true hb
  refine⟨.l h.next 0 0 (m+1) vs.length none,h',fun k'=>by simp only[J9,Dx,hb,AH,g1],g2,g3,fun ρ w w0 sv xv R hsv hxv=>?_⟩
  have hsv':sv=.slice none 0 0:=hsv
  subst hsv'
  obtain⟨x1,x2⟩:=hx ρ xv hxv
  obtain⟨new,n1,n2⟩:=x2 (dr w (w.drawn+1)) w0 (R.dr _)
  obtain⟨zv,z1,z2⟩:=DJ (ρ:=ρ) (z:=i.zero) (by omega)
  obtain⟨nc,c1,c2⟩:=Eh P w t t' ty elem e' i zv none 0 0 (m+1) xv #[] new hu hu' hi z1 (x1 P w) (by omega) (by omega) hby rfl (n2 P)
  have nl:=n1.length
  have zl:=z2.length
  simp at nl zl
  obtain⟨ρ',e1,e2,e3⟩:=g4 ρ (dr w (w.drawn+1)) w0 (#[]++new++Builtin.zeroCells zv.cells (nc-(0+(m+1)))) 0 _ (R.dr _) (by simp;omega) rfl
   (fun j v y hv hy=>by
     obtain⟨q,d1,d2⟩:=n1.get hv
     have hj:j<new.size:=by have:=(List.getElem?_eq_some_iff.1 d1).1;simpa using this
     have:some q=some y:=by
      rw[<-d1,<-hy,Array.getElem?_toList,Array.getElem?_append_left (by simpa using hj)];simp
     cases this;exact d2) rfl
  refine⟨_,_,c2,ρ',e1,⟨_,_,_,e2,by rw[Nat.zero_add];rfl,by omega,Nat.zero_le _,Nat.le_refl _,.inr rfl,(fun d hd=>by cases hd),fun _=>.inr ⟨i.size,hs1,by simp[hlen],?_⟩⟩,e3⟩
  refine⟨?_,fun d hd=>by cases hd⟩
  show 0-0+nc*i.size<=(#[]++new++Builtin.zeroCells zv.cells (nc-(0+(m+1)))).size
  simp only[Array.size_append,E3]
  have:(nc-(0+(m+1)))*zv.cells.size=nc*i.size-(m+1)*i.size:=by
   rw[show zv.cells.size=i.size by omega,Nat.zero_add,Nat.sub_mul]
  have h5:(m+1)*i.size<=nc*i.size:=Nat.mul_le_mul_right _ (by omega)
  rw[this,<-nl,hlen]
  simp;omega
theorem Pd {x:V} {id:B} {g off len fin n c:Nat} {vs:List V} {h:H} {k:V->H->Bool} (hcM:c<18446744073709551616) (hk:D8 elem id g off len fin i.size n vs h k=true) (hcap:¬len+n<=c) (hlen:vs.length=n*i.size)
 (hx:∀ ρ xv,A1 ρ x xv->(∀ (P:Program) w,(Builtin.lenOf xv).run P w=.ok n w)/\∀ w w0,A8 ρ h w w0->∃ new:Array Value,BJ ρ vs new.toList/\∀ (P:Program),(Builtin.firstCells i.size n xv).run P w=.ok new w):
 ∃ v h',(∀ k',D8 elem id g off len fin i.size n vs h k'=k' v h')/\Ax h h'/\B.val h.next<=B.val h'.next/\GK P t t' ty elem (.l id g off len fin (some c)) x h v h':=by
 simp only[D8]at hk
 obtain⟨hb,hk⟩:=AW hk
 obtain⟨H0,o1,o2,o3⟩:=NH (fun h=>by rw[h];exact Nat.zero_mul _) hk
 rw[o1]at hk
 obtain⟨h',g1,g2,g3,g4⟩:=Ei hk
 have hb':len+n<=1048576:=Nat.le_of_ble_eq_true hb
 refine⟨.l h.next 0 0 (len+n) ((len+n)*i.size) none,h',fun k'=>by simp only[D8,hb,AH,o1,g1,A5];rfl,g2,g3,fun ρ w w0 sv xv R hsv hxv=>?_⟩
 obtain⟨L,ad,cc,l1,rfl,lc,l3,l4,l5,l6,l7⟩:=hsv
 have hcc:cc=c:=l6 c rfl hcM
 subst hcc
 obtain⟨x1,x2⟩:=hx ρ xv hxv
 obtain⟨new,n1,n2⟩:=x2 (dr w (w.drawn+1)) w0 (R.dr _)
 obtain⟨zv,z1,z2⟩:=DJ (ρ:=ρ) (z:=i.zero) (by omega)
 obtain⟨xs,y1,y2,y3⟩:=o3 ρ (dr w (w.drawn+1)) w0 L (R.dr _) l1 l3 l4
 have hold:∃ oa:Array Value,BJ ρ H0 oa.toList/\(Builtin.firstCells i.size len (.slice (some ad) len cc)).run P (dr w (w.drawn+1))=.ok oa (dr w (w.drawn+1)):=by
  rcases l5 with⟨rfl,_⟩|rfl
  ·refine⟨#[],?_,?_⟩
   ·have:H0=[]:=by
     apply List.eq_nil_of_length_eq_zero
     rw[o2];exact Nat.zero_mul _
    subst this;trivial
   ·unfold Builtin.firstCells;rw[Nat.zero_mul];rfl
  ·exact⟨xs.toArray,by simpa using y1,by unfold Builtin.firstCells;exact y2 P⟩
 obtain⟨oa,oa1,oa2⟩:=hold
 obtain⟨nc,c1,c2⟩:=Eh P w t t' ty elem e' i zv (some ad) len cc n xv oa new hu hu' hi z1 (x1 P w) hcap hb' hby oa2 (n2 P)
 have nl:=n1.length
 have zl:=z2.length
 have ol:=oa1.length
 have o2':H0.length=len*i.size:=o2
 simp at nl zl ol
 have happ:BJ ρ (app H0 vs) (oa++new).toList:=by
  rw[De];simpa using oa1.append n1
 have hal:(app H0 vs).length=(len+n)*i.size:=by rw[De,List.length_append,o2',hlen,Nat.add_mul]
 have hal2:=happ.length
 simp at hal2
 obtain⟨ρ',e1,e2,e3⟩:=g4 ρ (dr w (w.drawn+1)) w0 (oa++new++Builtin.zeroCells zv.cells (nc-(len+n))) 0 _ (R.dr _) (by simp;omega) rfl
  (fun j v y hv hy=>by
    obtain⟨q,d1,d2⟩:=happ.get hv
    have hj:j<(oa++new).size:=by have:=(List.getElem?_eq_some_iff.1 d1).1;simpa using this
    have:some q=some y:=by
     rw[<-d1,<-hy,Array.getElem?_toList,Array.getElem?_append_left hj]
    cases this;exact d2) rfl
 refine⟨_,_,c2,ρ',e1,⟨_,_,_,e2,rfl,c1,Nat.zero_le _,by rw[hal];exact Nat.le_refl _,.inr rfl,(fun d hd=>by cases hd),fun _=>.inr ⟨i.size,hs1,by simp,?_⟩⟩,e3⟩
 refine⟨?_,fun d hd=>by cases hd⟩
 show 0-0+nc*i.size<=(oa++new++Builtin.zeroCells zv.cells (nc-(len+n))).size
 simp only[Array.size_append,E3]
 have h6:(nc-(len+n))*zv.cells.size=nc*i.size-(len+n)*i.size:=by
  rw[show zv.cells.size=i.size by omega,Nat.sub_mul]
 have h5:(len+n)*i.size<=nc*i.size:=Nat.mul_le_mul_right _ (by omega)
 rw[h6]
 have h7:(len+n)*i.size=len*i.size+n*i.size:=Nat.add_mul _ _ _
 omega
theorem RY {x:V} {id:B} {g off len fin n c:Nat} {vs:List V} {h:H} {k:V->H->Bool} (hcM:c<18446744073709551616) (hk:GA id g off len fin c i.size n vs h k=true) (hcap:len+n<=c) (hlen:vs.length=n*i.size)
 (hx:∀ ρ xv,A1 ρ x xv->(∀ (P:Program) w,(Builtin.lenOf xv).run P w=.ok n w)/\∀ w w0,A8 ρ h w w0->∃ new:Array Value,BJ ρ vs new.toList/\∀ (P:Program),(Builtin.firstCells i.size n xv).run P w=.ok new w):
 ∃ v h',(∀ k',GA id g off len fin c i.size n vs h k'=k' v h')/\Ax h h'/\B.val h.next<=B.val h'.next/\GK P t t' ty elem (.l id g off len fin (some c)) x h v h':=by
 cases n with
 |zero=>
  refine⟨.l id g off len fin (some c),h,fun k'=>rfl,Ax.refl h,Nat.le_refl _,fun ρ w w0 sv xv R hsv hxv=>?_⟩
  have hsv0:=hsv
  obtain⟨L,ad,cc,l1,rfl,lc,l3,l4,l5,l6,l7⟩:=hsv
  have hcc:cc=c:=l6 c rfl hcM
  subst hcc
  obtain⟨x1,x2⟩:=hx ρ xv hxv
  obtain⟨new,n1,n2⟩:=x2 w w0 R
  have:new=#[]:=by
   have:=n1.length
   rw[hlen]at this
   apply Array.eq_empty_of_size_eq_zero
   simpa using this.symm
  subst this
  exact⟨_,_,EB P w w t t' ty elem e' i (some ad) len cc 0 xv #[] hu hu' hi (x1 P w) hcap (n2 P) (fun a ha=>rfl) (fun _=>rfl),ρ,Ext.refl _ ρ,hsv0,R⟩
 |succ m=>
  simp only[GA,Dx]at hk
  obtain⟨h',g1,g2,g3,g4⟩:=GO hk
  refine⟨.l id g off (len+(m+1)) fin (some c),h',fun k'=>by simp only[GA,Dx,g1,A5];rfl,g2,by rw[g3];exact Nat.le_refl _,fun ρ w w0 sv xv R hsv hxv=>?_⟩
  obtain⟨L,ad,cc,l1,rfl,lc,l3,l4,l5,l6,l7⟩:=hsv
  have hcc:cc=c:=l6 c rfl hcM
  subst hcc
  obtain⟨x1,x2⟩:=hx ρ xv hxv
  obtain⟨new,n1,n2⟩:=x2 w w0 R
  have hadr:ad=⟨L.b,off-L.s,none⟩:=by
   rcases l5 with⟨h0,h1⟩|h1
   ·rcases h1 with h1|h1
    ·cases h1
    ·cases h1;omega
   ·exact h1
  subst hadr
  obtain⟨s1,s2⟩:=g4 ρ w w0 L _ R l1 (by exact Nat.le_add_right_of_le l3) l4 n1
  have e5:Nat.add off (Nat.mul len i.size)-L.s=off-L.s+len*i.size:=by
   show off+len*i.size-L.s=_
   omega
  rw[e5]at s1 s2
  exact⟨_,_,EB P w _ t t' ty elem e' i (some ⟨L.b,off-L.s,none⟩) len cc (m+1) xv new hu hu' hi (x1 P w) hcap (n2 P) (fun a ha=>by cases ha;rw[Cb];exact s1 P) (fun hn=>by cases hn),ρ,Ext.refl _ ρ,
   ⟨L,_,_,l1,rfl,hcap,l3,l4,.inr rfl,(fun d hd _=>by cases hd;rfl),(fun hd=>absurd hd (Oz.no hcM))⟩,s2⟩
theorem Js {x:V} {id:B} {g off len fin n:Nat} {cap:Option Nat} {z:Bool} {vs:List V} {h:H} {k:V->H->Bool} (hcap:Oz cap) (hzz:z=true->len=0->cap=some (18446744073709551615+i.size)) (hk:CV z elem id g off len fin i.size n vs h k=true) (hlen:vs.length=n*i.size)
 (hx:∀ ρ xv,A1 ρ x xv->(∀ (P:Program) w,(Builtin.lenOf xv).run P w=.ok n w)/\∀ w w0,A8 ρ h w w0->∃ new:Array Value,BJ ρ vs new.toList/\∀ (P:Program),(Builtin.firstCells i.size n xv).run P w=.ok new w):
 ∃ v h',(∀ k',CV z elem id g off len fin i.size n vs h k'=k' v h')/\Ax h h'/\B.val h.next<=B.val h'.next/\GK P t t' ty elem (.l id g off len fin cap) x h v h':=by
 obtain⟨next,floor,heap⟩:=h
 have e:∀ k',CV z elem id g off len fin i.size n vs ⟨next,floor,heap⟩ k'=CJ (heap.get id) fun Ao=>Ic Ao fun cur min sz cells el fr=>
  At (Nat.ble min g) fun _=>At (B.Kb floor id) fun _=>At (Nat.ble (Nat.add off (Nat.mul len i.size)) sz) fun _=>At (Nat.beq fin (Nat.add off (Nat.mul len i.size))) fun _=>At z fun _=>At (Nat.ble (Nat.add len n) 1048576) fun _=>At (CB vs) fun _=>At (HF fr (Nat.add off (Nat.mul len i.size))) fun _=>At (Nat.beq el elem) fun _=>
   Cu vs (Nat.add off (Nat.mul len i.size)) cells fun t=>T.HD id ⟨Nat.succ cur,Qt (Nat.beq (Nat.add off (Nat.mul len i.size)) sz) min (Nat.succ cur),Nat.add (Nat.add off (Nat.mul len i.size)) (Nat.mul n i.size),t,el,fr⟩ heap fun heap=>k' (.l id (Nat.succ cur) off (Nat.add len n) (Nat.add (Nat.add off (Nat.mul len i.size)) (Nat.mul n i.size)) (La i.size (Nat.add len n))) ⟨next,floor,heap⟩:=by
  intro k';simp only[CV,CN,A5]
 rw[e]at hk
 obtain⟨⟨cur,min,sz,cells,bel,fr⟩,hb,hk⟩:=Bb hk
 simp only[BH]at hk
 obtain⟨hmg,hk⟩:=AW hk
 obtain⟨hfl,hk⟩:=AW hk
 obtain⟨hsz,hk⟩:=AW hk
 obtain⟨hfn,hk⟩:=AW hk
 obtain⟨hzt,hk⟩:=AW hk
 obtain⟨hbd,hk⟩:=AW hk
 obtain⟨hone,hk⟩:=AW hk
 obtain⟨hfr,hk⟩:=AW hk
 obtain⟨hel,hk⟩:=AW hk
 obtain⟨tr,h1,h2,h3⟩:=E4 _ _ _ _ hk
 have hfn':fin=off+len*i.size:=Nat.eq_of_beq_eq_true hfn
 have hmn:∃ min',Qt (Nat.beq (Nat.add off (Nat.mul len i.size)) sz) min (Nat.succ cur)=min'/\((fin=sz/\min'=min)\/min'=cur+1):=by
  refine⟨_,rfl,?_⟩
  cases hb:Nat.beq (Nat.add off (Nat.mul len i.size)) sz with
  |true=>exact .inl ⟨hfn'.trans (Nat.eq_of_beq_eq_true hb),rfl⟩
  |false=>exact .inr rfl
 obtain⟨min',hmin,hmin2⟩:=hmn
 rw[hmin]at hk
 obtain⟨hp,h4,h5,h6⟩:=Bu id (⟨cur+1,min',fin+n*i.size,tr,bel,fr⟩:Gi) heap
 have hpp:Nat.add off (Nat.mul len i.size)=fin:=hfn'.symm
 rw[hpp]at h1 h2 h3 hfr hsz
 refine⟨.l id (cur+1) off (len+n) (fin+n*i.size) (La i.size (len+n)),⟨next,floor,hp⟩,fun k'=>by rw[e,hb,Aq,BH,hmin];simp only[hpp];rw[hmg,hfl,hsz,Nat.beq_refl,hzt,hbd,hone,hfr,hel];simp only[AH];rw[h1];exact h4 _,⟨rfl,fun hf i hi=>h6 i (fun e=>by rw[e]at hi;exact absurd (EM hfl) (Nat.not_le.2 hi))⟩,Nat.le_refl _,fun ρ w w0 sv xv R hsv hxv=>?_⟩
 have hsz0:fin<=sz:=Nat.le_of_ble_eq_true hsz
 have hsz':off+len*i.size=fin:=hfn'.symm
 have hbd':len+n<=1048576:=Nat.le_of_ble_eq_true hbd
 have hmg':min<=g:=Nat.le_of_ble_eq_true hmg
 have hel':bel=elem:=Nat.eq_of_beq_eq_true hel
 obtain⟨L,ad,cc,l1,rfl,lc,l3,l4,l5,l6,l7⟩:=hsv
 have hl0:len=0->cap=some (18446744073709551615+i.size):=hzz hzt
 have hadr:ad=⟨L.b,off-L.s,none⟩:=by
  rcases l5 with⟨h0,h1⟩|h1
  ·rcases h1 with h1|h1
   ·rw[hl0 h0]at h1;cases h1
   ·rcases hcap with hc|⟨d,hc,hd⟩
    ·rw[hc]at h1;cases h1
    ·rw[hc]at h1;cases h1;omega
  ·exact h1
 subst hadr
 obtain⟨q1,q3⟩:1<=i.size/\off-L.s+cc*i.size<=L.cs:=by
  refine⟨hs1,?_⟩
  rcases l7 hcap with h0|⟨q,q1,q2,q3,q4⟩
  ·rw[hl0 h0.1]at h0;cases h0.2
  ·rcases Nat.eq_zero_or_pos len with h0|h0
   ·have:=q4 _ (hl0 h0)
    rw[show i.size=q by omega];exact q3
   ·have hq:q=i.size:=by
     have:len*q=len*i.size:=by omega
     exact Nat.eq_of_mul_eq_mul_left (by omega) this
    rw[<-hq];exact q3
 obtain⟨Ao,a1,a2,a3,a4,a5,a6,a7⟩:=R.loc _ _ _ l1
 have hbe:Ao=⟨cur,min,sz,cells,bel,fr⟩:=by
  have:heap.get id=some Ao:=a1
  rw[hb]at this;exact(Option.some.inj this).symm
 subst hbe
 simp only at a2 a5 a6
 have hmg2:min<=cur:=Nat.le_trans hmg' a2
 obtain⟨c,el,b1,b2,b3,b4⟩:=a7 hmg'
 obtain⟨x1,x2⟩:=hx ρ xv hxv
 have hnone:ρ id (cur+1)=none:=by
  cases hr:ρ id (cur+1)with
  |none=>rfl
  |some M=>
   obtain⟨blk2,d1,d2,_⟩:=R.loc _ _ _ hr
   have:heap.get id=some blk2:=d1
   rw[hb]at this
   cases this
   simp only at d2
   omega
 by_cases hc:len+n<=cc
 · --in place
   obtain⟨new,n1,n2⟩:=x2 w w0 R
   have nl:=n1.length
   simp at nl
   have hcs:off-L.s+len*i.size+new.size<=c.size:=by
    have:(len+n)*i.size<=cc*i.size:=Nat.mul_le_mul_right _ hc
    rw[Nat.add_mul]at this
    omega
   have b1h:=b1
   obtain⟨b1e,fz,b1a,b1f⟩:=b1h
   obtain⟨c',s1,s2,s3,s4⟩:=FD L.b new.toList (off-L.s+len*i.size) w c el fz b1a
   have hrun:(storeCells (Addr.add ⟨L.b,off-L.s,none⟩ (len*i.size)) new.toList).run P w=.ok () (w.setCells L.b (off-L.s+len*i.size) new.toList):=by
    rw[Cb]
    have:=run_storeCells_cells (P:=P) L.b (off-L.s+len*i.size) new.toList 0 w
     (fun j hj=>by rw[b1.cell?];simp at hj;rw[Array.getElem?_eq_getElem (by omega)];rfl)
     (fun j hj=>by
       have hj':j<new.size:=by simpa using hj
       have:w.frozen? ⟨L.b,off-L.s+len*i.size+0+j,none⟩=false:=b1.Rb hfr (by omega) (by omega)
       exact this)
     (IM hone n1)
    simpa using this
   have hle:=BC.KR (⟨L.b,L.s,fin+n*i.size,L.cs,none⟩:Loc) hnone
   refine⟨_,_,EB P w _ t t' ty elem e' i (some ⟨L.b,off-L.s,none⟩) len cc n xv new hu hu' hi (x1 P w) hc (n2 P) (fun a ha=>by cases ha;exact hrun) (fun hn=>by cases hn),
    ρ.put id (cur+1) ⟨L.b,L.s,fin+n*i.size,L.cs,none⟩,Ext.put hnone (EM hfl),⟨_,_,_,BC.EJ _ _ _ _,rfl,hc,l3,Nat.le_refl _,.inr rfl,(fun d hd hl=>absurd hl (NK hs1 hd)),fun _=>.inr ⟨i.size,q1,by rw[Nat.add_mul];omega,q3,fun d hd=>Le hd⟩⟩,?_⟩
   have hcase:∀ {j g' M},ρ.put id (cur+1) ⟨L.b,L.s,fin+n*i.size,L.cs,none⟩ j g'=some M->(j=id/\g'=cur+1/\M=⟨L.b,L.s,fin+n*i.size,L.cs,none⟩)\/ρ j g'=some M:=by
    intro j g' M hM
    by_cases e:j=id/\g'=cur+1
    ·left;obtain⟨rfl,rfl⟩:=e;rw[BC.EJ]at hM;exact⟨rfl,rfl,(Option.some.inj hM).symm⟩
    ·right;rwa [BC.EZ _ _ _ _ e]at hM
   constructor
   ·intro j g' M hM
    rcases hcase hM with⟨e1,e2,e3⟩|hN
    ·subst e1;subst e2;subst e3
     refine⟨_,h5,Nat.le_refl _,by rw[B9];exact a3,by show L.s<=fin+n*i.size;omega,fun _=>Nat.le_refl _,fun _=>rfl,fun _=>⟨c',el,⟨b1e,fz,s1,by rw[s2];exact b1f⟩,s2.trans b2,by show fin+n*i.size-L.s<=L.cs;omega,fun p p1 p2=>?_⟩⟩
     simp only at p1 p2
     by_cases hpf:p<fin
     ·obtain⟨v,y,f1,f2,f3⟩:=b4 p p1 (Nat.lt_of_lt_of_le hpf l4)
      exact⟨v,y,(h3 p (.inl hpf)).trans f1,(s3 (p-L.s) (.inl (K7 (by rw[hsz'];exact hpf) l3 p1))).trans f2,A1.up hle _ _ f3⟩
     ·have hv:vs[p-fin]? =some (vs[p-fin]'(Et (by rw[hlen];exact p2) (Nat.le_of_not_lt hpf))):=by simp
      obtain⟨y,y1,y2⟩:=n1.get hv
      refine⟨_,y,?_,?_,A1.up hle _ _ y2⟩
      ·have:=h2 (p-fin) _ hv
       rwa [Nat.add_sub_of_le (Nat.le_of_not_lt hpf)]at this
      ·have hlt:p-fin<vs.length:=Et (by rw[hlen];exact p2) (Nat.le_of_not_lt hpf)
       have:=s4 (p-fin) y y1 (Nat.lt_of_lt_of_le (Nat.add_lt_add_left hlt _) (by rw[nl];exact hcs))
       rwa [aF hsz' l3 (Nat.le_of_not_lt hpf)]at this
    ·obtain⟨blk2,d1,d2,d3,d4,d5,d6,d7⟩:=R.loc _ _ _ hN
     by_cases hj:j=id
     ·subst hj
      have:heap.get j=some blk2:=d1
      rw[hb]at this
      cases this
      simp only at d2 d5 d6 d7
      refine⟨_,h5,by simp only;omega,by rw[B9];exact d3,d4,fun hm=>by obtain⟨hfs,hm⟩:=Hb hmin2 d2 (OZ hmin2 hmg2 hm);show M.e<=fin+n*i.size;rw[hfs];exact Nat.le_trans (d5 (.inl hm)) (Nat.le_add_right _ _),fun hg=>by simp only at hg;omega,fun hm=>?_⟩
      obtain⟨hfs,hm⟩:=Hb hmin2 d2 hm
      have d5:=d5 (.inl hm)
      obtain⟨c2,el2,f1,f2,f3,f4⟩:=d7 hm
      by_cases hbb:M.b=L.b
      ·have hss:=(R.sep _ _ _ _ _ _ hN l1 hbb).2
       obtain⟨f1e,fz2,f1a,f1f⟩:=f1
       rw[hbb]at f1a
       rw[b1a]at f1a
       cases f1a
       refine⟨c',el,⟨b1e,fz,by rw[hbb];exact s1,by rw[s2,hss];exact b1f⟩,s2.trans f2,f3,fun p p1 p2=>?_⟩
       obtain⟨v,y,u1,u2,u3⟩:=f4 p p1 p2
       exact⟨v,y,(h3 p (.inl (by omega))).trans u1,(s3 (p-M.s) (.inl (by rw[hss];exact K7 (by rw[hsz',hfs];exact Nat.lt_of_lt_of_le p2 d5) l3 (by rw[<-hss];exact p1)))).trans u2,A1.up hle _ _ u3⟩
      ·refine⟨c2,el2,f1.congr (BD _ _ _ _ _ hbb),f2,f3,fun p p1 p2=>?_⟩
       obtain⟨v,y,u1,u2,u3⟩:=f4 p p1 p2
       exact⟨v,y,(h3 p (.inl (by omega))).trans u1,u2,A1.up hle _ _ u3⟩
     ·have hbb:M.b≠L.b:=fun hbb=>hj (R.sep _ _ _ _ _ _ hN l1 hbb).1
      refine⟨blk2,(h6 j hj).trans d1,d2,by rw[B9];exact d3,d4,d5,d6,fun hm=>?_⟩
      obtain⟨c2,el2,f1,f2,f3,f4⟩:=d7 hm
      refine⟨c2,el2,f1.congr (BD _ _ _ _ _ hbb),f2,f3,fun p p1 p2=>?_⟩
      obtain⟨v,y,u1,u2,u3⟩:=f4 p p1 p2
      exact⟨v,y,u1,u2,A1.up hle _ _ u3⟩
   ·intro j g' M hM
    rcases hcase hM with⟨e1,e2,e3⟩|hN
    ·rw[e1];exact R.ids _ _ _ l1
    ·exact R.ids _ _ _ hN
   ·intro j g' M j' g'' M' hM hM' hbb
    rcases hcase hM with⟨i1,i2,i3⟩|hN<;>rcases hcase hM' with⟨j1,j2,j3⟩|hN'
    ·exact⟨i1.trans j1.symm,by rw[i3,j3]⟩
    ·have:=R.sep _ _ _ _ _ _ l1 hN' (by rw[<-hbb,i3])
     exact⟨i1.trans this.1,by rw[i3];exact this.2⟩
    ·have:=R.sep _ _ _ _ _ _ hN l1 (by rw[hbb,j3])
     exact⟨this.1.trans j1.symm,by rw[j3];exact this.2⟩
    ·exact R.sep _ _ _ _ _ _ hN hN' hbb
   ·exact R.Kw
   ·intro b hb'
    rw[BD]
    ·exact R.H0 b hb'
    ·have:=R.up _ _ _ l1 (EM hfl)
     omega
   ·intro j g' M hM hf
    rcases hcase hM with⟨e1,e2,e3⟩|hN
    ·rw[e3]
     have:=R.up _ _ _ l1 (by rw[<-e1];exact hf)
     exact this
    ·exact R.up _ _ _ hN hf
   ·rw[(C1 _ _ _ _).2.2];exact R.tp
   ·rw[(C1 _ _ _ _).1];exact R.os
   ·rw[(C1 _ _ _ _).2.1];exact R.out
   ·rw[B9];exact R.JN
   ·refine R.mp.of hle fun j M blk2 hM h2' h3'=>?_
    rcases hcase hM with⟨_,e2,_⟩|hN
    ·exact absurd e2 (by omega)
    ·by_cases hj:j=id
     ·subst hj
      have hb2:hp.get j=some blk2:=h2'
      rw[h5]at hb2
      have hb3:=Option.some.inj hb2
      subst hb3
      have h3'':min'=cur+1+7:=h3'
      omega
     ·exact⟨hN,(h6 j hj).symm.trans h2',BD _ _ _ _ _ fun hbb=>hj (R.sep _ _ _ _ _ _ hN l1 hbb).1⟩
   ·refine R.Mo.of fun j g' M blk2 hM h2' hg h3'=>?_
    by_cases hj:j=id
    ·subst hj
     have hb2:hp.get j=some blk2:=h2'
     rw[h5]at hb2
     have hb3:=Option.some.inj hb2
     subst hb3
     have h3'':min'=cur+1+9:=h3'
     omega
    ·rcases hcase hM with⟨e1,_,_⟩|hN
     ·exact absurd e1 hj
     ·exact⟨hN,(h6 j hj).symm.trans h2',BD _ _ _ _ _ fun hbb=>hj (R.sep _ _ _ _ _ _ hN l1 hbb).1⟩
 · --elsewhere
   have hcb:off-L.s+len*i.size<=c.size:=by omega
   obtain⟨new,n1,n2⟩:=x2 (dr w (w.drawn+1)) w0 (R.dr _)
   have nl:=n1.length
   simp at nl
   obtain⟨zv,z1,z2⟩:=DJ (ρ:=ρ) (z:=i.zero) (by omega)
   have zl:=z2.length
   simp at zl
   have hold:(Builtin.firstCells i.size len (.slice (some ⟨L.b,off-L.s,none⟩) len cc)).run P (dr w (w.drawn+1))=.ok ((List.range (len*i.size)).map fun j=>c.getD (off-L.s+j) default).toArray (dr w (w.drawn+1)):=by
    unfold Builtin.firstCells
    refine run_loadCells (dr w (w.drawn+1)) ⟨L.b,off-L.s,none⟩ (len*i.size) (fun j=>c.getD (off-L.s+j) default) (fun j hj=>?_)
    have b1':GJ (dr w (w.drawn+1)) L.b L.s c el bel fr:=b1
    have hlt:off-L.s+j<c.size:=Nat.lt_of_lt_of_le (Nat.add_lt_add_left hj _) hcb
    rw[Cb,b1'.cell?]
    simp[hlt]
   obtain⟨nc,c1,c2⟩:=Eh P w t t' ty elem e' i zv (some ⟨L.b,off-L.s,none⟩) len cc n xv _ new hu hu' hi z1 (x1 P w) hc hbd' hby hold (n2 P)
   generalize hoa:((List.range (len*i.size)).map fun j=>c.getD (off-L.s+j) default).toArray=oa at c2
   have oas:oa.size=len*i.size:=by rw[<-hoa];simp
   have oag:∀ j,j<len*i.size->oa[j]? =c[off-L.s+j]? :=by
    intro j hj
    have hlt:off-L.s+j<c.size:=Nat.lt_of_lt_of_le (Nat.add_lt_add_left hj _) hcb
    rw[<-hoa]
    simp[hj,hlt]
   have hcsz:(oa++new++Builtin.zeroCells zv.cells (nc-(len+n))).size=nc*i.size:=by
    simp only[Array.size_append,E3]
    have h6':(nc-(len+n))*zv.cells.size=nc*i.size-(len+n)*i.size:=by
     rw[show zv.cells.size=i.size by omega,Nat.sub_mul]
    have h5':(len+n)*i.size<=nc*i.size:=Nat.mul_le_mul_right _ (by omega)
    have h7':(len+n)*i.size=len*i.size+n*i.size:=Nat.add_mul _ _ _
    omega
   have hncs:(len+n)*i.size<=nc*i.size:=Nat.mul_le_mul_right _ (by omega)
   rw[Nat.add_mul]at hncs
   have hle:=BC.KR (⟨w.heap.size,off,fin+n*i.size,nc*i.size,none⟩:Loc) hnone
   refine⟨_,_,c2,ρ.put id (cur+1) ⟨w.heap.size,off,fin+n*i.size,nc*i.size,none⟩,Ext.put hnone (EM hfl),
    ⟨_,_,_,BC.EJ _ _ _ _,rfl,c1,Nat.le_refl _,Nat.le_refl _,.inr (by rw[Nat.sub_self]),(fun d hd hl=>absurd hl (NK hs1 hd)),fun _=>.inr ⟨i.size,q1,by rw[Nat.add_mul];omega,by simp,fun d hd=>Le hd⟩⟩,?_⟩
   have hcase:∀ {j g' M},ρ.put id (cur+1) ⟨w.heap.size,off,fin+n*i.size,nc*i.size,none⟩ j g'=some M->(j=id/\g'=cur+1/\M=⟨w.heap.size,off,fin+n*i.size,nc*i.size,none⟩)\/ρ j g'=some M:=by
    intro j g' M hM
    by_cases e:j=id/\g'=cur+1
    ·left;obtain⟨rfl,rfl⟩:=e;rw[BC.EJ]at hM;exact⟨rfl,rfl,(Option.some.inj hM).symm⟩
    ·right;rwa [BC.EZ _ _ _ _ e]at hM
   constructor
   ·intro j g' M hM
    rcases hcase hM with⟨e1,e2,e3⟩|hN
    ·subst e1;subst e2;subst e3
     refine⟨_,h5,Nat.le_refl _,by rw[By];exact Nat.lt_succ_self _,by show off<=fin+n*i.size;omega,fun _=>Nat.le_refl _,fun _=>rfl,fun _=>⟨_,elem,⟨hel'.symm,(0,0),EA _ _,NG.clean _ _ _⟩,hcsz,by show fin+n*i.size-off<=nc*i.size;omega,fun p p1 p2=>?_⟩⟩
     simp only at p1 p2
     by_cases hpf:p<fin
     ·obtain⟨v,y,f1,f2,f3⟩:=b4 p (Nat.le_trans l3 p1) (Nat.lt_of_lt_of_le hpf l4)
      refine⟨v,y,(h3 p (.inl hpf)).trans f1,?_,A1.up hle _ _ f3⟩
      have hlt:p-off<len*i.size:=Et (by rw[hsz'];exact hpf) p1
      rw[Array.append_assoc,Array.getElem?_append_left (by rw[oas];exact hlt)]
      rw[oag _ hlt,iK l3 p1]
      exact f2
     ·have hv:vs[p-fin]? =some (vs[p-fin]'(Et (by rw[hlen];exact p2) (Nat.le_of_not_lt hpf))):=by simp
      obtain⟨y,y1,y2⟩:=n1.get hv
      refine⟨_,y,?_,?_,A1.up hle _ _ y2⟩
      ·have:=h2 (p-fin) _ hv
       rwa [Nat.add_sub_of_le (Nat.le_of_not_lt hpf)]at this
      ·have hlt:p-fin<vs.length:=Et (by rw[hlen];exact p2) (Nat.le_of_not_lt hpf)
       have hge:=Nat.le_of_not_lt hpf
       have e8:p-off-oa.size=p-fin:=by rw[oas,<-hsz',Nat.sub_sub]
       have e9:oa.size<=p-off:=by rw[oas];exact Nat.le_sub_of_add_le (by rw[Nat.add_comm,hsz'];exact hge)
       rw[Array.append_assoc,Array.getElem?_append_right e9]
       rw[e8,Array.getElem?_append_left (by rw[<-nl];exact hlt),<-Array.getElem?_toList]
       exact y1
    ·obtain⟨blk2,d1,d2,d3,d4,d5,d6,d7⟩:=R.loc _ _ _ hN
     by_cases hj:j=id
     ·subst hj
      have:heap.get j=some blk2:=d1
      rw[hb]at this
      cases this
      simp only at d2 d5 d6 d7
      refine⟨_,h5,by simp only;omega,by rw[By];exact Nat.lt_succ_of_lt d3,d4,fun hm=>by obtain⟨hfs,hm⟩:=Hb hmin2 d2 (OZ hmin2 hmg2 hm);show M.e<=fin+n*i.size;rw[hfs];exact Nat.le_trans (d5 (.inl hm)) (Nat.le_add_right _ _),fun hg=>by simp only at hg;omega,fun hm=>?_⟩
      obtain⟨hfs,hm⟩:=Hb hmin2 d2 hm
      have d5:=d5 (.inl hm)
      obtain⟨c2,el2,f1,f2,f3,f4⟩:=d7 hm
      refine⟨c2,el2,f1.congr (BM _ _ d3),f2,f3,fun p p1 p2=>?_⟩
      obtain⟨v,y,u1,u2,u3⟩:=f4 p p1 p2
      exact⟨v,y,(h3 p (.inl (by omega))).trans u1,u2,A1.up hle _ _ u3⟩
     ·refine⟨blk2,(h6 j hj).trans d1,d2,by rw[By];exact Nat.lt_succ_of_lt d3,d4,d5,d6,fun hm=>?_⟩
      obtain⟨c2,el2,f1,f2,f3,f4⟩:=d7 hm
      refine⟨c2,el2,f1.congr (BM _ _ d3),f2,f3,fun p p1 p2=>?_⟩
      obtain⟨v,y,u1,u2,u3⟩:=f4 p p1 p2
      exact⟨v,y,u1,u2,A1.up hle _ _ u3⟩
   ·intro j g' M hM
    rcases hcase hM with⟨e1,e2,e3⟩|hN
    ·rw[e1];exact R.ids _ _ _ l1
    ·exact R.ids _ _ _ hN
   ·intro j g' M j' g'' M' hM hM' hbb
    rcases hcase hM with⟨i1,i2,i3⟩|hN<;>rcases hcase hM' with⟨j1,j2,j3⟩|hN'
    ·exact⟨i1.trans j1.symm,by rw[i3,j3]⟩
    ·obtain⟨_,_,_,d3,_⟩:=R.loc _ _ _ hN'
     rw[<-hbb,i3]at d3;exact absurd d3 (Nat.lt_irrefl _)
    ·obtain⟨_,_,_,d3,_⟩:=R.loc _ _ _ hN
     rw[hbb,j3]at d3;exact absurd d3 (Nat.lt_irrefl _)
    ·exact R.sep _ _ _ _ _ _ hN hN' hbb
   ·exact R.Kw
   ·intro b hb'
    rw[BM (dr w (w.drawn+1)) _ (Nat.lt_of_lt_of_le hb' R.JN)]
    exact R.H0 b hb'
   ·intro j g' M hM hf
    rcases hcase hM with⟨e1,e2,e3⟩|hN
    ·rw[e3];exact R.JN
    ·exact R.up _ _ _ hN hf
   ·exact R.tp
   ·exact R.os
   ·exact R.out
   ·rw[By];exact Nat.le_succ_of_le R.JN
   ·refine R.mp.of hle fun j M blk2 hM h2' h3'=>?_
    rcases hcase hM with⟨_,e2,_⟩|hN
    ·exact absurd e2 (by omega)
    ·by_cases hj:j=id
     ·subst hj
      have hb2:hp.get j=some blk2:=h2'
      rw[h5]at hb2
      have hb3:=Option.some.inj hb2
      subst hb3
      have h3'':min'=cur+1+7:=h3'
      omega
     ·exact⟨hN,(h6 j hj).symm.trans h2',by obtain⟨_,_,_,d3,_⟩:=R.loc _ _ _ hN;exact BM (dr w (w.drawn+1)) _ d3⟩
   ·refine R.Mo.of fun j g' M blk2 hM h2' hg h3'=>?_
    by_cases hj:j=id
    ·subst hj
     have hb2:hp.get j=some blk2:=h2'
     rw[h5]at hb2
     have hb3:=Option.some.inj hb2
     subst hb3
     have h3'':min'=cur+1+9:=h3'
     omega
    ·rcases hcase hM with⟨e1,_,_⟩|hN
     ·exact absurd e1 hj
     ·exact⟨hN,(h6 j hj).symm.trans h2',by obtain⟨_,_,_,d3,_⟩:=R.loc _ _ _ hN;exact BM (dr w (w.drawn+1)) _ d3⟩
end
end Go.Ev
namespace Go.Ev
open Go Go.MapKept
theorem VT:∀ (n:Nat) (t:T V) (o:Nat) (k:List (V×V)->Bool),TU n t o k=true->
 ∃ ps,(∀ k',TU n t o k'=k' ps)/\ps.length=n/\∀ (i:Nat) kv,ps[i]? =some kv->t.BN (o+2*i)=some kv.1/\t.BN (o+2*i+1)=some kv.2:=by
 intro n
 induction n with
 |zero=>intro t o k _;exact⟨[],fun _=>rfl,rfl,fun i kv h=>by simp at h⟩
 |succ n ih=>
  intro t o k h
  have e:∀ k',TU (n+1) t o k'=CJ (t.BN o) fun a=>CJ (t.BN (o+1)) fun b=>TU n t (o+2) fun ps=>k' ((a,b)::ps):=fun _=>rfl
  rw[e]at h
  obtain⟨a,ha,h⟩:=Bb h
  obtain⟨b,hb,h⟩:=Bb h
  obtain⟨ps,h1,h2,h3⟩:=ih _ _ _ h
  refine⟨(a,b)::ps,fun k'=>by rw[e,ha,Aq,hb,Aq,h1],by simp[h2],fun i kv hi=>?_⟩
  cases i with
  |zero=>simp at hi;subst hi;exact⟨by simpa using ha,by simpa using hb⟩
  |succ i=>
   have:=h3 i kv (by simpa using hi)
   rw[show o+2*(i+1)=o+2+2*i by omega]
   exact this
theorem YH.uniq {t:T V} {n:Nat} {ps qs:List (V×V)} (a:YH t n ps) (b:YH t n qs):ps=qs:=by
 apply List.ext_getElem (by rw[a.1,b.1])
 intro i h1 h2
 have e1:ps[i]? =some ps[i]:=by simp
 have e2:qs[i]? =some qs[i]:=by simp
 obtain⟨a1,a2⟩:=a.2 i _ e1
 obtain⟨b1,b2⟩:=b.2 i _ e2
 rw[a1]at b1
 rw[a2]at b2
 exact Prod.ext (Option.some.inj b1) (Option.some.inj b2)
theorem K9:∀ (ps:List (V×V)) (i:Nat) kv,ps[i]? =some kv->(Kt ps)[2*i]? =some kv.1/\(Kt ps)[2*i+1]? =some kv.2
 |[],i,kv,h=>by simp at h
 |(a,b)::r,0,kv,h=>by simp at h;subst h;exact⟨rfl,rfl⟩
 |(a,b)::r,i+1,kv,h=>by
  have:=K9 r i kv (by simpa using h)
  rw[show 2*(i+1)=2*i+1+1 by omega]
  exact⟨by simpa[Kt]using this.1,by simpa[Kt]using this.2⟩
theorem JR {h:H} {id:B} {k:B->B->T Gi->Nat->Nat->Nat->Nat->List (V×V)->Bool} (hk:Ms h id k=true):
 ∃ next floor heap cur min size cells n fr ps,h=⟨next,floor,heap⟩/\heap.get id=some ⟨cur,min,size,cells,n,fr⟩/\min=cur+7/\YH cells n ps/\∀ k',Ms h id k'=k' next floor heap cur min size fr ps:=by
 obtain⟨next,floor,heap⟩:=h
 simp only[Ms,CN]at hk
 obtain⟨⟨cur,min,size,cells,n,fr⟩,hb,hk⟩:=Bb hk
 simp only[BH]at hk
 obtain⟨hm,hk⟩:=AW hk
 obtain⟨ps,h1,h2,h3⟩:=VT _ _ _ _ hk
 refine⟨next,floor,heap,cur,min,size,cells,n,fr,ps,rfl,hb,Nat.eq_of_beq_eq_true hm,⟨h2,fun i kv hi=>by simpa using h3 i kv hi⟩,fun k'=>?_⟩
 simp only[Ms,CN,hb,Aq,BH,hm,AH,h1]
theorem D5 {ρ:BC} {h:H} {w w0:World} {id:B} {x:Value} {Ao:Gi} {ps:List (V×V)} (R:A8 ρ h w w0) (hv:A1 ρ (.m id) x) (hb:h.heap.get id=some Ao) (hm:Ao.min=Ao.cur+7) (hp:YH Ao.cells Ao.el ps):
 ∃ L es clock,ρ id 0=some L/\x=.map (some L.b)/\w.heap[L.b]? =some (.map es clock)/\Nd ρ ps es clock:=by
 obtain⟨L,h1,h2⟩:=hv
 obtain⟨es,clock,h3,qs,h4,h5⟩:=R.mp id L Ao h1 hb hm
 obtain rfl:=hp.uniq h4
 exact⟨L,es,clock,h1,h2,h3,h5⟩
def F9:Option IntKind->TypeDesc
 |none=>.string
 |some k=>.int k
theorem HH {P:Program} {t:TypeId} {kd:Option IntKind} (h:Fu (As P t)=some kd):P.underlying t=some (F9 kd):=by
 cases ht:As P t with
 |none=>rw[ht]at h;cases h
 |some ty=>
  rw[ht]at h
  obtain⟨s,b,d,z⟩:=ty
  obtain⟨i,i1,i2,i3,i4,i5⟩:=An ht
  cases d<;>first|(cases h;exact i5)|cases h
theorem Hy {ρ:BC} {kd:Option IntKind} {a b:V} {r:Bool} {x y:Value} (h:KN kd a b=some r) (hx:A1 ρ a x) (hy:A1 ρ b y):IsKey (F9 kd) x/\IsKey (F9 kd) y/\(r=true↔x=y):=by
 cases kd with
 |none=>
  cases a<;>cases b<;>try cases h
  rename_i l n l' n'
  obtain⟨bs,rfl,e1,e2,_⟩:=Gc hx
  obtain⟨bs',rfl,e3,e4,_⟩:=Gc hy
  refine⟨trivial,trivial,?_⟩
  have:=HJ bs bs'
  rw[e1,e2,e3,e4]at this
  rw[<-this]
  constructor
  ·intro q
   have q:bs.toList=bs'.toList:=by simpa using q
   rw[ByteArray.toList_eq,ByteArray.toList_eq]at q
   obtain⟨⟨l1⟩⟩:=bs
   obtain⟨⟨l2⟩⟩:=bs'
   cases q;rfl
  ·intro q;cases q;simp
 |some k=>
  cases a<;>cases b<;>try cases h
  rename_i kd n kd' n'
  have h':(match CE kd k&&CE kd' k with|true=>some (Jv n n')|false=>none)=some r:=h
  cases hk:(CE kd k&&CE kd' k)with
  |false=>rw[hk]at h';cases h'
  |true=>
   rw[hk]at h'
   rw[Bool.and_eq_true]at hk
   have e1:=Dn hk.1
   have e2:=Dn hk.2
   subst e1;subst e2
   have hx':x=.int kd' n:=hx
   have hy':y=.int kd' n':=hy
   subst hx';subst hy'
   have h'':Jv n n'=r:=Option.some.inj h'
   refine⟨rfl,rfl,?_⟩
   rw[<-h'',EN]
   simp
theorem F2.length {ρ:BC} {ps:List (V×V)} {l:List MapEntry} (f:F2 ρ ps l):ps.length=l.length:=by
 induction f with
 |nil=>rfl
 |cons _ _ _ ih=>simp[ih]
theorem F2.get {ρ:BC} {ps:List (V×V)} {l:List MapEntry} (f:F2 ρ ps l):∀ {i:Nat} {e:MapEntry},l[i]? =some e->∃ kv,ps[i]? =some kv/\A1 ρ kv.1 e.key/\A1 ρ kv.2 e.val:=by
 induction f with
 |nil=>intro i e h;simp at h
 |cons a b _ ih=>
  intro i e h
  cases i with
  |zero=>simp at h;subst h;exact⟨_,rfl,a,b⟩
  |succ i=>exact ih (by simpa using h)
theorem Ri {ρ:BC} {kd:Option IntKind} {q:V} {y:Value} (hy:A1 ρ q y) {ps:List (V×V)} {l:List MapEntry} (f:F2 ρ ps l):∀ {r:Option Nat},Hv kd q ps=some r->
 IsKey (F9 kd) y/\(∀ e∈l,IsKey (F9 kd) e.key)/\(r=none->∀ e∈l,e.key≠y)/\∀ i,r=some i->∃ e,l[i]? =some e/\e.key=y:=by
 induction f with
 |nil=>
  intro r h
  unfold Hv at h
  cases hq:KN kd q q with
  |none=>rw[hq]at h;cases h
  |some b=>
   rw[hq]at h
   cases h
   exact⟨(Hy hq hy hy).1,fun e he=>(by cases he),fun _ e he=>(by cases he),fun i hi=>(by cases hi)⟩
 |@cons k v e ps es a b _ ih=>
  intro r h
  unfold Hv at h
  cases hq:KN kd q k with
  |none=>rw[hq]at h;cases h
  |some c=>
   rw[hq]at h
   cases hr:Hv kd q ps with
   |none=>rw[hr]at h;cases c<;>cases h
   |some s=>
    rw[hr]at h
    obtain⟨i1,i2,i3,i4⟩:=ih hr
    obtain⟨j1,j2,j3⟩:=Hy hq hy a
    have hall:∀ x∈e::es,IsKey (F9 kd) x.key:=fun x hx=>by
     rcases List.mem_cons.1 hx with rfl|hx
     ·exact j2
     ·exact i2 x hx
    cases c with
    |true=>
     cases h
     exact⟨i1,hall,fun h=>(by cases h),fun i hi=>by cases hi;exact⟨e,rfl,(j3.1 rfl).symm⟩⟩
    |false=>
     have hne:e.key≠y:=fun q=>by have:=j3.2 q.symm;cases this
     cases s with
     |none=>
      cases h
      refine⟨i1,hall,fun _ x hx=>?_,fun i hi=>(by cases hi)⟩
      rcases List.mem_cons.1 hx with rfl|hx
      ·exact hne
      ·exact i3 rfl x hx
     |some n=>
      cases h
      refine⟨i1,hall,fun h=>(by cases h),fun i hi=>?_⟩
      cases hi
      obtain⟨x,x1,x2⟩:=i4 n rfl
      exact⟨x,by simpa using x1,x2⟩
theorem TD {es:Array MapEntry} {clock:Nat} (st:Stamped es clock) {i j:Nat} {e f:MapEntry} (hi:es.toList[i]? =some e) (hj:es.toList[j]? =some f) (h:e.key=f.key):i=j:=by
 have hp:=((stamped_iff es clock).1 st).2.2
 rw[List.pairwise_iff_getElem]at hp
 obtain⟨h1,e1⟩:=List.getElem?_eq_some_iff.1 hi
 obtain⟨h2,e2⟩:=List.getElem?_eq_some_iff.1 hj
 rcases Nat.lt_trichotomy i j with hlt|he|hlt
 ·exact absurd (by rw[e1,e2];exact h) (hp i j h1 h2 hlt)
 ·exact he
 ·exact absurd (by rw[e1,e2];exact h.symm) (hp j i h2 h1 hlt)
/--what 'findNow' finds -/
theorem Dy {ρ:BC} {kd:Option IntKind} {q:V} {y:Value} {ps:List (V×V)} {es:Array MapEntry} {clock:Nat} {r:Option Nat} (m:Nd ρ ps es clock) (hy:A1 ρ q y) (hf:Hv kd q ps=some r):
 IsKey (F9 kd) y/\(∀ e∈es.toList,IsKey (F9 kd) e.key)/\
 ((r=none/\Instr.findNow (F9 kd) y es.toList 0=some none/\∀ e∈es.toList,e.key≠y)\/
  ∃ i j e l kv,r=some i/\Instr.findNow (F9 kd) y es.toList 0=some (some (j,e.val))/\es.toList[j]? =some e/\e.key=y/\l.Perm es.toList/\F2 ρ ps l/\l[i]? =some e/\ps[i]? =some kv/\A1 ρ kv.1 e.key/\A1 ρ kv.2 e.val):=by
 obtain⟨l,l1,l2⟩:=m.rel
 obtain⟨a1,a2,a3,a4⟩:=Ri hy l2 hf
 have hes:∀ e∈es.toList,IsKey (F9 kd) e.key:=fun e he=>a2 e (l1.mem_iff.2 he)
 refine⟨a1,hes,?_⟩
 rcases findNow_spec a1 es.toList 0 hes with⟨h1,h2⟩|⟨j,e,h1,h2,h3⟩
 ·cases r with
  |none=>exact .inl ⟨rfl,h1,h2⟩
  |some i=>
   obtain⟨e,e1,e2⟩:=a4 i rfl
   exact absurd e2 (h2 e (l1.mem_iff.1 (List.mem_of_getElem? e1)))
 ·cases r with
  |none=>exact absurd h3 (a3 rfl e (l1.mem_iff.2 (List.mem_of_getElem? h2)))
  |some i=>
   obtain⟨f,f1,f2⟩:=a4 i rfl
   obtain⟨jf,hjf⟩:=List.mem_iff_getElem?.1 (l1.mem_iff.1 (List.mem_of_getElem? f1))
   have:jf=j:=TD m.st hjf h2 (by rw[f2,h3])
   subst this
   rw[h2]at hjf
   cases hjf
   obtain⟨kv,k1,k2,k3⟩:=l2.get f1
   exact .inr ⟨i,jf,e,l,kv,rfl,by rw[h1,Nat.zero_add],h2,h3,l1,l2,f1,k1,k2,k3⟩
theorem M9 {P:Program} {t:TypeId} {z:V} (h:zeroV P t=some z) (ρ:BC):∃ v,(∀ w,(zeroValue t).run P w=.ok v w)/\A1 ρ z v:=by
 have look:∀ {i:TypeInfo},P.types.toList[t]? =some i->P.info? t=some i:=by
  intro i hu
  have hu':P.types[t]? =some i:=by simpa using hu
  have hlt:t<P.types.size:=(Array.getElem?_eq_some_iff.1 hu').1
  simp only[Tables.info?,hlt,if_true]
  exact hu'
 unfold zeroV at h
 split at h
 ·rename_i i hi
  split at h
  ·rename_i cs hz
   cases h
   refine⟨_,fun w=>Ca (look hi) hz w,_,rfl,?_⟩
   show BJ ρ _ cs
   clear hz
   induction cs with
   |nil=>trivial
   |cons c cs ih=>exact⟨DX ρ c,ih⟩
  ·rename_i v _ hz
   cases h
   exact⟨v,fun w=>Ca (look hi) hz w,DX ρ v⟩
  ·cases h
 ·cases h
theorem Pu (P:Program) (o:Oper) (t:TypeId) (x q:Operand) (ok:Bool) (h:o.op=.lookup t x q ok):Ae P o (runK (Fj P t (AN x) (AN q) ok)):=by
 cases ht:As P t with
 |none=>simp only[Fj,ht];exact Ai P o
 |some ty=>
  obtain⟨s1,s2,d,s4⟩:=ty
  obtain⟨i,i1,i2,i3,i4,i5⟩:=An ht
  cases d<;>simp only[Fj,ht]<;>try exact Ai P o
  rename_i kt e
  cases hkk:Fu (As P kt)with
  |none=>exact Ai P o
  |some kd=>
  cases hz:zeroV P e with
  |none=>exact Ai P o
  |some z=>
  have hkt:=HH hkk
  have res:∀ {ρ:BC} {v:V} {y:Value} (b:Bool),A1 ρ v y->A1 ρ (KZ ok v b) (if ok then .tuple #[y,.bool b]else y):=fun b hv=>by
   cases ok
   ·exact hv
   ·exact⟨_,rfl,hv,rfl,trivial⟩
  refine Ae.pure (by rw[h];rfl) fun cf fr hp k hk=>?_
  simp only[Ak,Gb,AQ]at hk
  cases hx:oV (AN x) fr<;>rw[hx]at hk<;>try exact Bool.noConfusion hk
  ·obtain⟨b,hb,_⟩:=Bb hk
   refine⟨KZ ok z false,fun k'=>by simp only[Ak,Gb,AQ,hx,vM,hb,Aq],fun ρ a A w w0 R=>?_⟩
   have ex:=A x (by rw[h];simp[Op.operands])
   rw[hx]at ex
   have ex':a.eval x=.map none:=ex
   have eq:=A q (by rw[h];simp[Op.operands])
   obtain⟨zv,z1,z2⟩:=M9 hz ρ
   refine⟨_,?_,res false z2⟩
   have hf:Instr.findNow (F9 kd) (a.eval q) [] 0=some none:=rfl
   unfold execOp
   rw[h]
   simp only[ex',Instr.lookup,Sem.run_bind,run_underlying i5,Result.andThen_ok,Sem.run_pure',Go.MapKept.run_checkKey hkt (Hy hb eq eq).1,Go.MapKept.run_findKey hkt hf,z1 w]
  ·rename_i id
   obtain⟨next,floor,heap,cur,min,size,cells,n,frz,ps,rfl,hb,hm,hp',hK⟩:=JR hk
   simp only[vM]at hk
   rw[hK]at hk
   obtain⟨r,hr,_⟩:=Bb hk
   cases r with
   |none=>
    refine⟨KZ ok z false,fun k'=>by simp only[Ak,Gb,AQ,hx,vM,hK,hr,Aq],fun ρ a A w w0 R=>?_⟩
    have ex:=A x (by rw[h];simp[Op.operands])
    rw[hx]at ex
    have eq:=A q (by rw[h];simp[Op.operands])
    obtain⟨L,es,clock,l1,l2,l3,l4⟩:=D5 R ex hb hm hp'
    obtain⟨f1,f2,f3⟩:=Dy l4 eq hr
    obtain⟨zv,z1,z2⟩:=M9 hz ρ
    refine⟨_,?_,res false z2⟩
    rcases f3 with⟨_,g1,_⟩|⟨i,_,_,_,_,g,_⟩
    ·unfold execOp
     rw[h]
     simp only[l2,Instr.lookup,Sem.run_bind,run_underlying i5,Result.andThen_ok,Go.MapKept.run_getObj_map l3,Sem.run_pure',Go.MapKept.run_checkKey hkt f1,Go.MapKept.run_findKey hkt g1,z1 w]
    ·cases g
   |some i=>
    refine⟨KZ ok ((ps.getD i (.u,.u)).2) true,fun k'=>by simp only[Ak,Gb,AQ,hx,vM,hK,hr,Aq],fun ρ a A w w0 R=>?_⟩
    have ex:=A x (by rw[h];simp[Op.operands])
    rw[hx]at ex
    have eq:=A q (by rw[h];simp[Op.operands])
    obtain⟨L,es,clock,l1,l2,l3,l4⟩:=D5 R ex hb hm hp'
    obtain⟨f1,f2,f3⟩:=Dy l4 eq hr
    rcases f3 with⟨g,_⟩|⟨i',j,e',l,kv,g,g1,g2,g3,g4,g5,g6,g7,g8,g9⟩
    ·cases g
    ·cases g
     refine⟨_,?_,res (y:=e'.val) true (by simp only[List.getD_eq_getElem?_getD,g7,Option.getD_some];exact g9)⟩
     unfold execOp
     rw[h]
     simp only[l2,Instr.lookup,Sem.run_bind,run_underlying i5,Result.andThen_ok,Go.MapKept.run_getObj_map l3,Sem.run_pure',Go.MapKept.run_checkKey hkt f1,Go.MapKept.run_findKey hkt g1]
theorem Mz {w:World} {b:Nat} {o o':Obj} (hb:w.heap[b]? =some o):({w with heap:=w.heap.setIfInBounds b o'}:World).heap[b]? =some o':=(heap_set hb).1
theorem G8 {w:World} {b c:Nat} {o o':Obj} (hb:w.heap[b]? =some o) (h:c≠b):({w with heap:=w.heap.setIfInBounds b o'}:World).heap[c]? =w.heap[c]? :=(heap_set hb).2 c h
theorem Fm (w:World) (b:Nat) (o':Obj):({w with heap:=w.heap.setIfInBounds b o'}:World).heap.size=w.heap.size:=by simp
theorem LY {next floor:B} {heap:T Gi} {id:B} {cur min size fr:Nat} {cells:T V} {n:Nat} {ps qs:List (V×V)} {k:H->Bool} (hb:heap.get id=some ⟨cur,min,size,cells,n,fr⟩) (hm:min=cur+7) (hp:YH cells n ps)
 (hk:OM next floor heap id cur min size fr qs k=true):
 ∃ h',(∀ k',OM next floor heap id cur min size fr qs k'=k' h')/\Ax ⟨next,floor,heap⟩ h'/\h'.next=next/\
  ∀ ρ w w0 L es clock es' clock',A8 ρ ⟨next,floor,heap⟩ w w0->ρ id 0=some L->w.heap[L.b]? =some (.map es clock)->Nd ρ qs es' clock'->A8 ρ h' {w with heap:=w.heap.setIfInBounds L.b (.map es' clock')} w0:=by
 unfold OM at hk
 obtain⟨hfl,hk⟩:=AW hk
 obtain⟨t,h1,h2,h3⟩:=E4 _ _ _ _ hk
 obtain⟨hp',h4,h5,h6⟩:=Bu id (⟨cur,min,size,t,qs.length,fr⟩:Gi) heap
 refine⟨⟨next,floor,hp'⟩,fun k'=>by unfold OM;rw[hfl];simp only[AH];rw[h1,h4],⟨rfl,fun hf i hi=>h6 i (fun e=>by rw[e]at hi;exact absurd (EM hfl) (Nat.not_le.2 hi))⟩,rfl,fun ρ w w0 L es clock es' clock' R hL hwb m=>?_⟩
 have oth:∀ {i:B} {g:Nat} {M:Loc},ρ i g=some M->i≠id->({w with heap:=w.heap.setIfInBounds L.b (.map es' clock')}:World).heap[M.b]? =w.heap[M.b]? :=fun {i g M} hM hi=>G8 hwb fun e=>hi (R.sep _ _ _ _ _ _ hM hL e).1
 refine⟨fun i g M hM=>?_,R.ids,R.sep,R.Kw,fun b hb'=>?_,R.up,R.tp,R.os,R.out,by rw[Fm];exact R.JN,fun i M Ao hM hblk hmm=>?_,R.Mo.of fun i g M Ao hM hblk hg hmm=>?_⟩
 ·obtain⟨Ao,a1,a2,a3,a4,a5,a6,a7⟩:=R.loc _ _ _ hM
  by_cases hi:i=id
  ·subst hi
   have hbe:Ao=⟨cur,min,size,cells,n,fr⟩:=by
    have:heap.get i=some Ao:=a1
    rw[hb]at this;exact(Option.some.inj this).symm
   subst hbe
   refine⟨_,h5,a2,by rw[Fm];exact a3,a4,a5,a6,fun hmg=>?_⟩
   have h1':g<=cur:=a2
   have h2':min<=g:=hmg
   omega
  ·refine⟨Ao,(h6 i hi).trans a1,a2,by rw[Fm];exact a3,a4,a5,a6,fun hmg=>?_⟩
   obtain⟨c,el,b1,b2,b3,b4⟩:=a7 hmg
   exact⟨c,el,b1.congr (oth hM hi),b2,b3,b4⟩
 ·rw[G8 hwb]
  ·exact R.H0 b hb'
  ·have:=R.up _ _ _ hL (EM hfl);omega
 ·by_cases hi:i=id
  ·subst hi
   have hb2:hp'.get i=some Ao:=hblk
   rw[h5]at hb2
   have hb3:=Option.some.inj hb2
   subst hb3
   have:M=L:=by rw[hM]at hL;exact Option.some.inj hL
   subst this
   refine⟨es',clock',Mz hwb,qs,⟨rfl,fun j kv hj=>?_⟩,m⟩
   obtain⟨f1,f2⟩:=K9 qs j kv hj
   exact⟨by have:=h2 _ _ f1;rwa [Nat.zero_add]at this,by have:=h2 _ _ f2;rwa [Nat.zero_add]at this⟩
  ·obtain⟨es1,clock1,q1,q2⟩:=R.mp i M Ao hM ((h6 i hi).symm.trans hblk) hmm
   exact⟨es1,clock1,(oth hM hi).trans q1,q2⟩
 ·by_cases hi:i=id
  ·subst hi
   have hb2:hp'.get i=some Ao:=hblk
   rw[h5]at hb2
   have hb3:=Option.some.inj hb2
   subst hb3
   have hmm:min=cur+9:=hmm
   omega
  ·exact⟨hM,(h6 i hi).symm.trans hblk,oth hM hi⟩
theorem set_perm {α:Type}:∀ (l:List α) (i:Nat) (a:α),i<l.length->(l.set i a).Perm (a::l.eraseIdx i)
 |[],i,a,h=>by simp at h
 |x::l,0,a,h=>by simp
 |x::l,i+1,a,h=>by
  have:=set_perm l i a (by simpa using h)
  simp only[List.set_cons_succ,List.eraseIdx_cons_succ]
  exact(this.cons x).trans (List.Perm.swap a x _)
theorem Jz {α:Type}:∀ (l:List α) (i:Nat) (a:α),l[i]? =some a->l.Perm (a::l.eraseIdx i)
 |[],i,a,h=>by simp at h
 |x::l,0,a,h=>by simp at h;subst h;simp
 |x::l,i+1,a,h=>by
  have:=Jz l i a (by simpa using h)
  simp only[List.eraseIdx_cons_succ]
  exact(this.cons x).trans (List.Perm.swap a x _)
theorem Ji {α:Type} {l m:List α} (h:l.Perm m) {i j:Nat} {a:α} (hi:l[i]? =some a) (hj:m[j]? =some a):(l.eraseIdx i).Perm (m.eraseIdx j):=
 (((Jz l i a hi).symm.trans h).trans (Jz m j a hj)).cons_inv
theorem F2.set {ρ:BC} {ps:List (V×V)} {l:List MapEntry} (f:F2 ρ ps l) {k v:V} {e:MapEntry} (hk:A1 ρ k e.key) (hv:A1 ρ v e.val):∀ (i:Nat),F2 ρ (ps.set i (k,v)) (l.set i e):=by
 induction f with
 |nil=>intro i;exact .nil
 |cons a b c ih=>
  intro i
  cases i with
  |zero=>exact .cons hk hv c
  |succ i=>exact .cons a b (ih i)
theorem F2.erase {ρ:BC} {ps:List (V×V)} {l:List MapEntry} (f:F2 ρ ps l):∀ (i:Nat),F2 ρ (ps.eraseIdx i) (l.eraseIdx i):=by
 induction f with
 |nil=>intro i;exact .nil
 |cons a b c ih=>
  intro i
  cases i with
  |zero=>exact c
  |succ i=>exact .cons a b (ih i)
theorem F2.snoc {ρ:BC} {ps:List (V×V)} {l:List MapEntry} (f:F2 ρ ps l) {k v:V} {e:MapEntry} (hk:A1 ρ k e.key) (hv:A1 ρ v e.val):F2 ρ (ps++[(k,v)]) (l++[e]):=by
 induction f with
 |nil=>exact .cons hk hv .nil
 |cons a b c ih=>exact .cons a b ih
theorem PY (P:Program) (o:Oper) (t:TypeId) (x q v:Operand) (h:o.op=.mapUpdate t x q v):Ae P o (runK (Ff P t (AN x) (AN q) (AN v))):=by
 cases ht:As P t with
 |none=>simp only[Ff,ht];exact Ai P o
 |some ty=>
  obtain⟨s1,s2,d,s4⟩:=ty
  obtain⟨i,i1,i2,i3,i4,i5⟩:=An ht
  cases d<;>simp only[Ff,ht]<;>try exact Ai P o
  rename_i kt e
  cases hkk:Fu (As P kt)with
  |none=>exact Ai P o
  |some kd=>
  have hkt:=HH hkk
  intro cf _ fr hp k hk
  simp only[Ak,Hf,AQ]at hk
  cases hx:oV (AN x) fr<;>rw[hx]at hk<;>try exact Bool.noConfusion hk
  rename_i id
  obtain⟨next,floor,heap,cur,min,size,cells,n,frz,ps,rfl,hb,hm,hp',hK⟩:=JR hk
  simp only[vM]at hk
  rw[hK]at hk
  obtain⟨r,hr,hk⟩:=Bb hk
  cases r with
  |none=>
   obtain⟨h',p1,p2,p3,p4⟩:=LY hb hm hp' hk
   refine⟨.tu [],h',fun k'=>by simp only[Ak,Hf,AQ,hx,vM,hK,hr,Aq,p1],p2,by rw[p3];exact Nat.le_refl _,fun ρ a w w0 A R=>?_,fun hs=>by rw[h]at hs;exact Bool.noConfusion hs⟩
   have ex:=A x (by rw[h];simp[Op.operands])
   rw[hx]at ex
   have eq:=A q (by rw[h];simp[Op.operands])
   have ev:=A v (by rw[h];simp[Op.operands])
   obtain⟨L,es,clock,l1,l2,l3,l4⟩:=D5 R ex hb hm hp'
   obtain⟨f1,f2,f3⟩:=Dy l4 eq hr
   rcases f3 with⟨_,g1,g2⟩|⟨i,_,_,_,_,g,_⟩
   ·obtain⟨l,m1,m2⟩:=l4.rel
    refine⟨.skip,_,?_,ρ,Ext.refl _ ρ,⟨#[],rfl,trivial⟩,p4 ρ w w0 L es clock (es.push {key:=a.eval q,val:=a.eval v,born:=clock}) (clock+1) R l1 l3 ⟨⟨l++[{key:=a.eval q,val:=a.eval v,born:=clock}],?_,m2.snoc eq ev⟩,stamped_push l4.st g2⟩⟩
    ·unfold execOp
     rw[h]
     simp only[l2,Instr.mapUpdate,Sem.run_bind,run_underlying i5,Result.andThen_ok,Go.MapKept.run_getObj_map l3,Go.MapKept.run_checkKey hkt f1,Go.MapKept.run_findKey hkt g1,run_setObj_map _ l3]
     rfl
    ·rw[Array.toList_push];exact m1.append_right _
   ·cases g
  |some i0=>
   obtain⟨h',p1,p2,p3,p4⟩:=LY hb hm hp' hk
   refine⟨.tu [],h',fun k'=>by simp only[Ak,Hf,AQ,hx,vM,hK,hr,Aq,p1],p2,by rw[p3];exact Nat.le_refl _,fun ρ a w w0 A R=>?_,fun hs=>by rw[h]at hs;exact Bool.noConfusion hs⟩
   have ex:=A x (by rw[h];simp[Op.operands])
   rw[hx]at ex
   have eq:=A q (by rw[h];simp[Op.operands])
   have ev:=A v (by rw[h];simp[Op.operands])
   obtain⟨L,es,clock,l1,l2,l3,l4⟩:=D5 R ex hb hm hp'
   obtain⟨f1,f2,f3⟩:=Dy l4 eq hr
   rcases f3 with⟨g,_⟩|⟨i',j,e',l,kv,g,g1,g2,g3,g4,g5,g6,g7,g8,g9⟩
   ·cases g
   ·cases g
    have hj:es[j]? =some e':=by rw[<-Array.getElem?_toList];exact g2
    have hmod:(es.modify j fun e=>{e with key:=a.eval q,val:=a.eval v}).toList=es.toList.set j {e' with key:=a.eval q,val:=a.eval v}:=by
     apply List.ext_getElem?
     intro n
     rw[Array.getElem?_toList,Array.getElem?_modify,List.getElem?_set]
     by_cases hn:j=n
     ·subst hn
      have hjl:j<es.toList.length:=(List.getElem?_eq_some_iff.1 g2).1
      rw[if_pos rfl,if_pos rfl,if_pos hjl,hj];rfl
     ·rw[if_neg hn,if_neg hn,Array.getElem?_toList]
    refine⟨.skip,_,?_,ρ,Ext.refl _ ρ,⟨#[],rfl,trivial⟩,p4 ρ w w0 L es clock (es.modify j fun e=>{e with key:=a.eval q,val:=a.eval v}) clock R l1 l3 ⟨⟨l.set i0 {e' with key:=a.eval q,val:=a.eval v},?_,g5.set eq ev i0⟩,stamped_modify l4.st j _ (fun e _=>rfl) (fun e he hje=>by rw[hj]at hje;cases hje;exact g3.symm)⟩⟩
    ·unfold execOp
     rw[h]
     simp only[l2,Instr.mapUpdate,Sem.run_bind,run_underlying i5,Result.andThen_ok,Go.MapKept.run_getObj_map l3,Go.MapKept.run_checkKey hkt f1,Go.MapKept.run_findKey hkt g1,run_setObj_map _ l3,hj,Option.map_some,Option.getD_some,g3,run_keyThatStays f1]
     rfl
    ·rw[hmod]
     have hil:i0<l.length:=(List.getElem?_eq_some_iff.1 g6).1
     have hjl:j<es.toList.length:=(List.getElem?_eq_some_iff.1 g2).1
     exact((set_perm l i0 _ hil).trans ((Ji g4 g6 g2).cons _)).trans (set_perm es.toList j _ hjl).symm
theorem BO (P:Program) (w:World) (a:Act) (o:Oper) (b:Builtin) (args:Array Operand) (tys:Array TypeId) (h:o.op=.call ⟨.builtin b,args,tys⟩):
 (execOp a.eval o).run P w=(builtin b tys o.type (args.map fun|.const _=>true|_=>false) (args.map a.eval)).run P w:=by
 unfold execOp
 rw[h]
 rfl
theorem Pf (P:Program) (o:Oper) (t t':TypeId) (x q:Operand) (args:Array Operand) (tys:Array TypeId) (ha:args.toList=[x,q]) (ht':tys.toList=[t,t'])
 (h:o.op=.call ⟨.builtin .delete,args,tys⟩):Ae P o (runK (Fi P t (AN x) (AN q))):=by
 have ea:∀ a:Act,args.map a.eval=#[a.eval x,a.eval q]:=fun a=>by apply Array.ext';simp[ha]
 have et:tys=#[t,t']:=by apply Array.ext';simp[ht']
 cases ht:As P t with
 |none=>simp only[Fi,ht];exact Ai P o
 |some ty=>
  obtain⟨s1,s2,d,s4⟩:=ty
  obtain⟨i,i1,i2,i3,i4,i5⟩:=An ht
  cases d<;>simp only[Fi,ht]<;>try exact Ai P o
  rename_i kt e
  cases hkk:Fu (As P kt)with
  |none=>exact Ai P o
  |some kd=>
  have hkt:=HH hkk
  have opx:∀ {ρ:BC} {fr:F} {a:Act},FG ρ fr a o.op.operands.toList->A1 ρ (oV (AN x) fr) (a.eval x):=fun A=>A x (by rw[h];simp[Op.operands,Call.operands,<-Array.mem_toList_iff,ha])
  have opq:∀ {ρ:BC} {fr:F} {a:Act},FG ρ fr a o.op.operands.toList->A1 ρ (oV (AN q) fr) (a.eval q):=fun A=>A q (by rw[h];simp[Op.operands,Call.operands,<-Array.mem_toList_iff,ha])
  intro cf _ fr hp k hk
  simp only[Ak,GW,AQ]at hk
  have hs:still P o.op=false:=by rw[h];rfl
  cases hx:oV (AN x) fr<;>rw[hx]at hk<;>try exact Bool.noConfusion hk
  ·obtain⟨b,hb,_⟩:=Bb hk
   refine⟨.tu [],hp,fun k'=>by simp only[Ak,GW,AQ,hx,vM,hb,Aq],Ax.refl _,Nat.le_refl _,fun ρ a w w0 A R=>?_,fun hh=>by rw[hs]at hh;cases hh⟩
   have ex:=opx A
   rw[hx]at ex
   have ex':a.eval x=.map none:=ex
   refine⟨.value (.tuple #[]),w,?_,ρ,Ext.refl _ ρ,⟨#[],rfl,trivial⟩,R⟩
   rw[BO P w a o .delete args tys h,ea,et,ex']
   unfold builtin Builtin.delete_
   simp only[List.getElem?_toArray,List.getElem?_cons_zero,List.getElem?_cons_succ,Sem.run_bind,run_underlying i5,Result.andThen_ok,Go.MapKept.run_checkKey hkt (Hy hb (opq A) (opq A)).1]
   rfl
  ·rename_i id
   obtain⟨next,floor,heap,cur,min,size,cells,n,frz,ps,rfl,hb,hm,hp',hK⟩:=JR hk
   simp only[vM]at hk
   rw[hK]at hk
   obtain⟨r,hr,hk⟩:=Bb hk
   cases r with
   |none=>
    obtain⟨hfl,hk⟩:=AW hk
    refine⟨.tu [],⟨next,floor,heap⟩,fun k'=>by simp only[Ak,GW,AQ,hx,vM,hK,hr,Aq,hfl,AH],Ax.refl _,Nat.le_refl _,fun ρ a w w0 A R=>?_,fun hh=>by rw[hs]at hh;cases hh⟩
    have ex:=opx A
    rw[hx]at ex
    obtain⟨L,es,clock,l1,l2,l3,l4⟩:=D5 R ex hb hm hp'
    obtain⟨f1,f2,f3⟩:=Dy l4 (opq A) hr
    rcases f3 with⟨_,g1,g2⟩|⟨i,_,_,_,_,g,_⟩
    ·have hsame:w.heap.setIfInBounds L.b (.map es clock)=w.heap:=by
      apply Array.ext_getElem?
      intro i
      by_cases e:i=L.b
      ·subst e;rw[(heap_set l3).1,l3]
      ·exact(heap_set l3).2 i e
     refine⟨.value (.tuple #[]),w,?_,ρ,Ext.refl _ ρ,⟨#[],rfl,trivial⟩,R⟩
     rw[BO P w a o .delete args tys h,ea,et,l2]
     unfold builtin Builtin.delete_
     simp only[List.getElem?_toArray,List.getElem?_cons_zero,List.getElem?_cons_succ,Sem.run_bind,run_underlying i5,Result.andThen_ok,Go.MapKept.run_getObj_map l3,Go.MapKept.run_checkKey hkt f1,Go.MapKept.run_findKey hkt g1,run_setObj_map _ l3,hsame]
     rfl
    ·cases g
   |some i0=>
    obtain⟨h',p1,p2,p3,p4⟩:=LY hb hm hp' hk
    refine⟨.tu [],h',fun k'=>by simp only[Ak,GW,AQ,hx,vM,hK,hr,Aq,p1],p2,by rw[p3];exact Nat.le_refl _,fun ρ a w w0 A R=>?_,fun hh=>by rw[hs]at hh;cases hh⟩
    have ex:=opx A
    rw[hx]at ex
    obtain⟨L,es,clock,l1,l2,l3,l4⟩:=D5 R ex hb hm hp'
    obtain⟨f1,f2,f3⟩:=Dy l4 (opq A) hr
    rcases f3 with⟨g,_⟩|⟨i',j,e',l,kv,g,g1,g2,g3,g4,g5,g6,g7,g8,g9⟩
    ·cases g
    ·cases g
     have hjl:j<es.size:=by have:=(List.getElem?_eq_some_iff.1 g2).1;simpa using this
     refine⟨.value (.tuple #[]),_,?_,ρ,Ext.refl _ ρ,⟨#[],rfl,trivial⟩,p4 ρ w w0 L es clock (es.eraseIdxIfInBounds j) clock R l1 l3 ⟨⟨l.eraseIdx i0,?_,g5.erase i0⟩,stamped_erase l4.st j⟩⟩
     ·rw[BO P w a o .delete args tys h,ea,et,l2]
      unfold builtin Builtin.delete_
      simp only[List.getElem?_toArray,List.getElem?_cons_zero,List.getElem?_cons_succ,Sem.run_bind,run_underlying i5,Result.andThen_ok,Go.MapKept.run_getObj_map l3,Go.MapKept.run_checkKey hkt f1,Go.MapKept.run_findKey hkt g1,run_setObj_map _ l3]
      rfl
     ·unfold Array.eraseIdxIfInBounds
      rw[dif_pos hjl,Array.toList_eraseIdx]
      exact Ji g4 g6 g2
theorem P2 (P:Program) (o:Oper) (t kt e:TypeId) (x:Operand) (args:Array Operand) (tys:Array TypeId) (ha:args.toList=[x]) (ht':tys.toList=[t]) (hm':KW P (some t)=true) (hu:P.underlying t=some (.map kt e))
 (h:o.op=.call ⟨.builtin .len,args,tys⟩):Ae P o (GR (AN x)):=by
 have ea:∀ a:Act,args.map a.eval=#[a.eval x]:=fun a=>by apply Array.ext';simp[ha]
 have et:tys=#[t]:=by apply Array.ext';simp[ht']
 have hs:still P o.op=false:=by
  rw[h]
  show(!KW P tys.toList.head?)=false
  rw[ht']
  show(!KW P (some t))=false
  rw[hm'];rfl
 refine Ae.pure hs fun cf fr hp k hk=>?_
 simp only[GR,AQ]at hk
 cases hx:oV (AN x) fr<;>rw[hx]at hk<;>try exact Bool.noConfusion hk
 ·refine⟨.i .i64 (.ofNat 0),fun k'=>by simp only[GR,AQ,hx,vM],fun ρ a A w w0 R=>?_⟩
  have ex:=A x (by rw[h];simp[Op.operands,Call.operands,<-Array.mem_toList_iff,ha])
  rw[hx]at ex
  have ex':a.eval x=.map none:=ex
  refine⟨.int .i64 0,?_,rfl⟩
  rw[BO P w a o .len args tys h,ea,et,ex']
  unfold builtin Builtin.len_
  simp only[List.getElem?_toArray,List.getElem?_cons_zero,Sem.run_bind,run_underlying hu,Result.andThen_ok]
  rfl
 ·rename_i id
  obtain⟨next,floor,heap,cur,min,size,cells,n,frz,ps,rfl,hb,hm,hp',hK⟩:=JR hk
  refine⟨.i .i64 (.ofNat ps.length),fun k'=>by simp only[GR,AQ,hx,vM,hK],fun ρ a A w w0 R=>?_⟩
  have ex:=A x (by rw[h];simp[Op.operands,Call.operands,<-Array.mem_toList_iff,ha])
  rw[hx]at ex
  obtain⟨L,es,clock,l1,l2,l3,l4⟩:=D5 R ex hb hm hp'
  obtain⟨l,m1,m2⟩:=l4.rel
  have hsz:es.size=ps.length:=by
   have:=m1.length_eq
   rw[m2.length,this];simp
  refine⟨.int .i64 (es.size:Int),?_,by rw[hsz];rfl⟩
  rw[BO P w a o .len args tys h,ea,et,l2]
  unfold builtin Builtin.len_
  simp only[List.getElem?_toArray,List.getElem?_cons_zero,Sem.run_bind,run_underlying hu,Result.andThen_ok,Go.MapKept.run_getObj_map l3]
  rfl
theorem PE {h:H} {k:V->H->Bool} (hk:D9.newM h k=true):
 ∃ h',(∀ k',D9.newM h k'=k' (.m h.next) h')/\Ax h h'/\B.val h.next<=B.val h'.next/\
  ∀ ρ w w0,A8 ρ h w w0->Sv h.floor ρ w0 (.m h.next) h' (.map (some w.heap.size)) (w.alloc (.map #[] 0)):=by
 obtain⟨next,floor,heap⟩:=h
 obtain⟨hp,h4,h5,h6⟩:=Bu next (⟨0,7,0,.o,0,0⟩:Gi) heap
 obtain⟨nx,h7,h8⟩:=Gl next
 refine⟨⟨nx,floor,hp⟩,fun k'=>by unfold D9.newM;simp only[CN];rw[h4,h7],⟨rfl,fun hf id hid=>h6 id (fun e=>by rw[e]at hid;exact absurd hf (Nat.not_le.2 hid))⟩,by show B.val next<=B.val nx;omega,fun ρ w w0 R=>?_⟩
 have hnone:ρ next 0=none:=by
  cases hr:ρ next 0 with
  |none=>rfl
  |some L=>have:=R.ids _ _ _ hr;exact absurd this (Nat.lt_irrefl _)
 have hne:∀ id g L,ρ id g=some L->¬(id=next):=fun id g L hr he=>by
  have:=R.ids _ _ _ hr;rw[he]at this;exact absurd this (Nat.lt_irrefl _)
 have hle:=BC.KR (⟨w.heap.size,0,0,0,none⟩:Loc) hnone
 refine⟨ρ.put next 0 ⟨w.heap.size,0,0,0,none⟩,Ext.put hnone R.Kw,⟨_,BC.EJ _ _ _ _,rfl⟩,?_⟩
 have hcase:∀ {id g L},ρ.put next 0 ⟨w.heap.size,0,0,0,none⟩ id g=some L->(id=next/\g=0/\L=⟨w.heap.size,0,0,0,none⟩)\/ρ id g=some L:=by
  intro id g L hL
  by_cases e:id=next/\g=0
  ·left;obtain⟨rfl,rfl⟩:=e;rw[BC.EJ]at hL;exact⟨rfl,rfl,(Option.some.inj hL).symm⟩
  ·right;rwa [BC.EZ _ _ _ _ e]at hL
 refine⟨fun id g L hL=>?_,fun id g L hL=>?_,fun id g L id' g' L' hL hL' hb=>?_,?_,fun b hb=>?_,fun id g L hL hf=>?_,R.tp,R.os,R.out,by rw[By];exact Nat.le_succ_of_le R.JN,fun id L Ao hL hblk hm=>?_,R.Mo.of fun id g L Ao hL hblk hg hm=>?_⟩
 ·rcases hcase hL with⟨rfl,rfl,rfl⟩|hL
  ·exact⟨_,h5,Nat.le_refl _,by rw[By];exact Nat.lt_succ_self _,Nat.le_refl _,fun _=>Nat.le_refl _,fun _=>rfl,fun hm=>by have hm:7<=0:=hm;omega⟩
  ·obtain⟨Ao,a1,a2,a3,a4,a5,a6,a7⟩:=R.loc _ _ _ hL
   refine⟨Ao,(h6 id (hne _ _ _ hL)).trans a1,a2,by rw[By];omega,a4,a5,a6,fun hm=>?_⟩
   obtain⟨c',el',b1,b2,b3,b4⟩:=a7 hm
   refine⟨c',el',b1.congr (BM _ _ a3),b2,b3,fun i i1 i2=>?_⟩
   obtain⟨v,x,d1,d2,d3⟩:=b4 i i1 i2
   exact⟨v,x,d1,d2,A1.up hle _ _ d3⟩
 ·show B.val id<B.val nx
  rcases hcase hL with⟨rfl,rfl,rfl⟩|hL
  ·rw[h8];exact Nat.lt_succ_self _
  ·have:B.val id<B.val next:=R.ids _ _ _ hL
   rw[h8];omega
 ·rcases hcase hL with⟨i1,i2,i3⟩|hM<;>rcases hcase hL' with⟨j1,j2,j3⟩|hM'
  ·exact⟨i1.trans j1.symm,by rw[i3,j3]⟩
  ·obtain⟨_,_,_,a3,_⟩:=R.loc _ _ _ hM'
   rw[<-hb,i3]at a3;exact absurd a3 (Nat.lt_irrefl _)
  ·obtain⟨_,_,_,a3,_⟩:=R.loc _ _ _ hM
   rw[hb,j3]at a3;exact absurd a3 (Nat.lt_irrefl _)
  ·exact R.sep _ _ _ _ _ _ hM hM' hb
 ·show B.val floor<=B.val nx
  have:B.val floor<=B.val next:=R.Kw
  rw[h8];omega
 ·rw[BM _ _ (Nat.lt_of_lt_of_le hb R.JN)]
  exact R.H0 b hb
 ·rcases hcase hL with⟨rfl,rfl,rfl⟩|hL
  ·exact R.JN
  ·exact R.up _ _ _ hL hf
 ·rcases hcase hL with⟨rfl,_,rfl⟩|hL
  ·have hb2:hp.get id=some Ao:=hblk
   rw[h5]at hb2
   have hb3:=Option.some.inj hb2
   subst hb3
   exact⟨#[],0,EA _ _,[],⟨rfl,fun i kv hi=>by simp at hi⟩,⟨⟨[],.nil,.nil⟩,stamped_empty 0⟩⟩
  ·obtain⟨_,_,_,a3,_⟩:=R.loc _ _ _ hL
   obtain⟨es,clock,q1,q2⟩:=R.mp id L Ao hL ((h6 id (hne _ _ _ hL)).symm.trans hblk) hm
   exact⟨es,clock,(BM _ _ a3).trans q1,q2.up hle⟩
 ·rcases hcase hL with⟨rfl,_,rfl⟩|hL
  ·have hb2:hp.get id=some Ao:=hblk
   rw[h5]at hb2
   have hb3:=Option.some.inj hb2
   subst hb3
   have hm:7=0+9:=hm
   exact absurd hm (by decide)
  ·obtain⟨_,_,_,a3,_⟩:=R.loc _ _ _ hL
   exact⟨hL,(h6 id (hne _ _ _ hL)).symm.trans hblk,BM _ _ a3⟩
theorem N6 (P:Program) (o:Oper) (t:TypeId) (r:Option Operand) (h:o.op=.makeMap t r):Ae P o (runK (E8 P t (r.map AN))):=by
 cases ht:As P t with
 |none=>simp only[E8,ht];exact Ai P o
 |some ty=>
  obtain⟨s1,s2,d,s4⟩:=ty
  obtain⟨i,i1,i2,i3,i4,i5⟩:=An ht
  cases d<;>simp only[E8,ht]<;>try exact Ai P o
  intro cf _ fr hp k hk
  cases r with
  |none=>
   have hk':D9.newM hp k=true:=hk
   obtain⟨h',p1,p2,p3,p4⟩:=PE hk'
   refine⟨_,h',fun k'=>p1 k',p2,p3,fun ρ a w w0 A R=>?_,fun hs=>by rw[h]at hs;exact Bool.noConfusion hs⟩
   exact⟨.value (.map (some w.heap.size)),w.alloc (.map #[] 0),by unfold execOp;rw[h];rfl,p4 ρ w w0 R⟩
  |some r=>
   simp only[Ak,D9,Option.map_some,AQ]at hk
   obtain⟨kd,n,hv,hk⟩:=Cy hk
   obtain⟨h',p1,p2,p3,p4⟩:=PE hk
   refine⟨.m hp.next,h',fun k'=>by simp only[Ak,D9,Option.map_some,AQ,hv,Cz,p1],p2,p3,fun ρ a w w0 A R=>?_,fun hs=>by rw[h]at hs;exact Bool.noConfusion hs⟩
   have er:=A r (by rw[h];simp[Op.operands])
   rw[hv]at er
   have er':a.eval r=.int kd n:=er
   refine⟨.value (.map (some w.heap.size)),w.alloc (.map #[] 0),?_,p4 ρ w w0 R⟩
   unfold execOp
   rw[h]
   simp only[Option.map_some,er',Instr.makeMap,Sem.run_bind,run_underlying i5,Result.andThen_ok]
   rfl
end Go.Ev
namespace Go.Ev
open Go
theorem KO {P:Program} {t t' ty elem e':TypeId} {i:TypeInfo} (hu:P.underlying t=some (.slice elem)) (hu':P.underlying t'=some (.slice e')\/P.underlying t'=some .string) (hi:P.info? elem=some i)
 (hz:(zeroOf i.zero).length=i.size) (hs1:1<=i.size) (hby:i.bytes<=65536) {s x:V} {n:Nat} {vs:List V} {h:H} {k:V->H->Bool} (hk:CU elem i.size s n vs h k=true)
 (hlen:vs.length=n*i.size)
 (hx:∀ ρ xv,A1 ρ x xv->(∀ (P:Program) w,(Builtin.lenOf xv).run P w=.ok n w)/\∀ w w0,A8 ρ h w w0->∃ new:Array Value,BJ ρ vs new.toList/\∀ (P:Program),(Builtin.firstCells i.size n xv).run P w=.ok new w):
 ∃ v h',(∀ k',CU elem i.size s n vs h k'=k' v h')/\Ax h h'/\B.val h.next<=B.val h'.next/\GK P t t' ty elem s x h v h':=by
 rcases ET hk with⟨hv,hk⟩|⟨id,g,off,len,fin,cap,hv,hk⟩
 ·subst hv
  obtain⟨v,h',g1,g2,g3,g4⟩:=QQ hu hu' hi hz hs1 hby hk hlen hx
  exact⟨v,h',fun k'=>by simp only[CU,HB,g1],g2,g3,g4⟩
 ·subst hv
  cases cap with
  |none=>
   have hk':CV (Nat.ble 1 len) elem id g off len fin i.size n vs h k=true:=hk
   obtain⟨v,h',g1,g2,g3,g4⟩:=Js hu hu' hi hz hs1 hby (cap:=none) (.inl rfl) (fun hz h0=>by have:=Nat.le_of_ble_eq_true hz;omega) hk' hlen hx
   exact⟨v,h',fun k'=>by simp only[CU,C4,g1],g2,g3,g4⟩
  |some c=>
   cases hfc:BP c with
   |true=>
    have e:∀ k',CU elem i.size (.l id g off len fin (some c)) n vs h k'=A3 (BP c) (fun _=>CV (Vn (Nat.ble 1 len) (Nat.beq c (Nat.add 18446744073709551615 i.size))) elem id g off len fin i.size n vs h k') (fun _=>A3 (Nat.ble (Nat.add len n) c) (fun _=>GA id g off len fin c i.size n vs h k') (fun _=>D8 elem id g off len fin i.size n vs h k')):=fun _=>rfl
    rw[e,hfc,DQ]at hk
    obtain⟨v,h',g1,g2,g3,g4⟩:=Js hu hu' hi hz hs1 hby (cap:=some c) (.inr ⟨c,rfl,Gn hfc⟩) (fun hz h0=>by subst h0;exact congrArg some (Nat.eq_of_beq_eq_true hz)) hk hlen hx
    exact⟨v,h',fun k'=>by rw[e,hfc,DQ,g1],g2,g3,g4⟩
   |false=>
   have hcM:=Gz hfc
   have e:∀ k',CU elem i.size (.l id g off len fin (some c)) n vs h k'=A3 (Nat.ble (Nat.add len n) c) (fun _=>GA id g off len fin c i.size n vs h k') (fun _=>D8 elem id g off len fin i.size n vs h k'):=fun k'=>by
    show A3 (BP c) _ _=_
    rw[hfc,BE]
   have hk':A3 (Nat.ble (Nat.add len n) c) (fun _=>GA id g off len fin c i.size n vs h k) (fun _=>D8 elem id g off len fin i.size n vs h k)=true:=by rw[e]at hk;exact hk
   rcases Sk hk' with⟨hb,hk⟩|⟨hb,hk⟩
   ·obtain⟨v,h',g1,g2,g3,g4⟩:=RY hu hu' hi hz hs1 hby hcM hk (Nat.le_of_ble_eq_true hb) hlen hx
    exact⟨v,h',fun k'=>by rw[e,hb,DQ,g1],g2,g3,g4⟩
   ·have hc:¬len+n<=c:=fun h=>by
     have:Nat.ble (Nat.add len n) c=true:=Nat.ble_eq_true_of_le h
     rw[hb]at this;cases this
    obtain⟨v,h',g1,g2,g3,g4⟩:=Pd hu hu' hi hz hs1 hby hcM hk hc hlen hx
    exact⟨v,h',fun k'=>by rw[e,hb,BE,g1],g2,g3,g4⟩
theorem Nv (P:Program) (o:Oper) (t t' e:TypeId) (x y:Operand) (args:Array Operand) (tys:Array TypeId) (ha:args.toList=[x,y]) (ht:tys.toList=[t,t'])
 (hu:P.underlying t=some (.slice e)) (hu':P.underlying t'=some .string)
 (h:o.op=.call ⟨.builtin .append,args,tys⟩):Ae P o (runK (KV e (As P e) (AN x) (AN y))):=by
 cases h3:As P e with
 |none=>exact Ai P o
 |some et=>
  obtain⟨l,l1,l2,l3,l4,l5⟩:=An h3
  unfold KV
  split
  ·rename_i bytes z heq
   cases heq
   simp only at l2 l3 l4
   split
   ·rename_i hc
    simp only[Bool.and_eq_true]at hc
    have c1:1<=l.size:=by omega
    have c2:l.bytes<=65536:=by rw[l3];exact Nat.le_of_ble_eq_true hc.1
    have c3:(zeroOf l.zero).length=l.size:=by rw[l4,l2];exact Nat.eq_of_beq_eq_true hc.2
    intro cf _ fr hp k hk
    simp only[Ak,FJ,Au,AQ]at hk
    obtain⟨n,vs,n1,n2,n3⟩:=IB hk
    rw[n1]at hk
    have n3':∀ ρ xv,A1 ρ (oV (AN y) fr) xv->(∀ (P:Program) w,(Builtin.lenOf xv).run P w=.ok n w)/\∀ w w0,A8 ρ hp w w0->∃ new:Array Value,BJ ρ vs new.toList/\∀ (P:Program),(Builtin.firstCells l.size n xv).run P w=.ok new w:=by
     intro ρ xv hx
     obtain⟨q1,new,q2,q3⟩:=n3 ρ xv hx
     exact⟨q1,fun w w0 _=>⟨new,q2,fun P=>by rw[l2];exact q3 P w⟩⟩
    rw[<-l2]at hk n2
    obtain⟨v,h',g1,g2,g3,g4⟩:=KO (e':=e) (ty:=o.type) hu (.inr hu') l1 c3 c1 c2 hk n2 n3'
    refine⟨v,h',fun k'=>by simp only[Ak,FJ,Au,AQ,n1];rw[<-l2,g1],g2,g3,fun ρ a w w0 A R=>?_,fun hs=>by rw[h]at hs;exact Bool.noConfusion hs⟩
    obtain⟨z,w',z1,z2⟩:=g4 ρ w w0 _ _ R (A x (by rw[h];simp[Op.operands,Call.operands,<-Array.mem_toList_iff,ha])) (A y (by rw[h];simp[Op.operands,Call.operands,<-Array.mem_toList_iff,ha]))
    refine⟨.value z,w',?_,z2⟩
    rw[BO P w a o .append args tys h]
    have ea:args.map a.eval=#[a.eval x,a.eval y]:=by apply Array.ext';simp[ha]
    have et:tys=#[t,t']:=by apply Array.ext';simp[ht]
    rw[ea,et]
    simp only[builtin,Sem.run_bind,z1,Result.andThen_ok]
    rfl
   ·exact Ai P o
  ·exact Ai P o
theorem Qc (P:Program) (o:Oper) (t t':TypeId) (x y:Operand) (args:Array Operand) (tys:Array TypeId) (ha:args.toList=[x,y]) (ht:tys.toList=[t,t'])
 (h:o.op=.call ⟨.builtin .append,args,tys⟩):Ae P o (runK (D2 P t t' (AN x) (AN y))):=by
 cases h1:As P t with
 |none=>simp only[D2,h1];exact Ai P o
 |some ty=>
  cases h2:As P t' with
  |none=>simp only[D2,h1,h2];exact Ai P o
  |some ty'=>
   obtain⟨s1,s2,d,s4⟩:=ty
   obtain⟨r1,r2,d',r4⟩:=ty'
   obtain⟨i,i1,i2,i3,i4,i5⟩:=An h1
   obtain⟨j,j1,j2,j3,j4,j5⟩:=An h2
   cases d<;>simp only[D2,h1,h2]<;>try exact Ai P o
   rename_i e
   cases d'<;>simp only[D2,h1,h2]<;>try exact Ai P o
   ·exact Nv P o t t' e x y args tys ha ht i5 j5 h
   rename_i e'
   cases h3:As P e with
   |none=>exact Ai P o
   |some et=>
    obtain⟨esz,eb,ed,ez⟩:=et
    obtain⟨l,l1,l2,l3,l4,l5⟩:=An h3
    simp only at l2 l3 l4
    cases hc:(Nat.ble 1 esz&&(Nat.ble eb 65536&&Nat.beq ez.length esz))with
    |false=>simp only[hc];exact Ai P o
    |true=>
     simp only[hc,Ak]
     simp only[Bool.and_eq_true]at hc
     have c1:1<=l.size:=by rw[l2];exact Nat.le_of_ble_eq_true hc.1
     have c2:l.bytes<=65536:=by rw[l3];exact Nat.le_of_ble_eq_true hc.2.1
     have c3:(zeroOf l.zero).length=l.size:=by rw[l4,l2];exact Nat.eq_of_beq_eq_true hc.2.2
     rw[<-l2]
     intro cf _ fr hp k hk
     simp only[BL,Au,AQ]at hk
     obtain⟨n,vs,n1,n2,n3⟩:=M6 hk
     rw[n1]at hk
     obtain⟨v,h',g1,g2,g3,g4⟩:=KO (e':=e') (ty:=o.type) i5 (.inl j5) l1 c3 c1 c2 hk n2 n3
     refine⟨v,h',fun k'=>by simp only[BL,Au,AQ,n1,g1],g2,g3,fun ρ a w w0 A R=>?_,fun hs=>by rw[h]at hs;exact Bool.noConfusion hs⟩
     obtain⟨z,w',z1,z2⟩:=g4 ρ w w0 _ _ R (A x (by rw[h];simp[Op.operands,Call.operands,<-Array.mem_toList_iff,ha])) (A y (by rw[h];simp[Op.operands,Call.operands,<-Array.mem_toList_iff,ha]))
     refine⟨.value z,w',?_,z2⟩
     rw[BO P w a o .append args tys h]
     have ea:args.map a.eval=#[a.eval x,a.eval y]:=by apply Array.ext';simp[ha]
     have et:tys=#[t,t']:=by apply Array.ext';simp[ht]
     rw[ea,et]
     simp only[builtin,Sem.run_bind,z1,Result.andThen_ok]
     rfl
theorem FI {P:Program} {w:World} {t t' ty e:TypeId} {i:TypeInfo} {base:Option Addr} {len c n:Nat} {x:Value} {cells:Array Value} {w':World}
 (hu:P.underlying t=some (.slice e)) (hi:P.info? e=some i) (hl:(Builtin.lenOf x).run P w=.ok n w) (hc:(Builtin.firstCells i.size (Nat.min n len) x).run P w=.ok cells w)
 (hst:∀ a,base=some a->(storeCells a cells.toList).run P w=.ok () w') (hno:base=none->w'=w):
 (Builtin.copy_ #[t,t'] ty #[.slice base len c,x]).run P w=.ok (.int .i64 (Int.ofNat (Nat.min n len))) w':=by
 unfold Builtin.copy_
 simp only[List.getElem?_toArray,List.getElem?_cons_zero,List.getElem?_cons_succ,Sem.run_bind,run_underlying hu,Result.andThen_ok,Aw hi,hl,hc]
 cases base with
 |none=>rw[hno rfl];rfl
 |some a=>simp only[Sem.run_bind,hst a rfl,Result.andThen_ok];rfl
theorem Vh (P:Program) (o:Oper) (t t':TypeId) (x y:Operand) (args:Array Operand) (tys:Array TypeId) (ha:args.toList=[x,y]) (ht:tys.toList=[t,t'])
 (h:o.op=.call ⟨.builtin .copy,args,tys⟩):Ae P o (runK (Hw P t (AN x) (AN y))):=by
 have ea:∀ a:Act,args.map a.eval=#[a.eval x,a.eval y]:=fun a=>by apply Array.ext';simp[ha]
 have et:tys=#[t,t']:=by apply Array.ext';simp[ht]
 have mx:x∈o.op.operands.toList:=by rw[h];simp[Op.operands,Call.operands,<-Array.mem_toList_iff,ha]
 have my:y∈o.op.operands.toList:=by rw[h];simp[Op.operands,Call.operands,<-Array.mem_toList_iff,ha]
 cases h1:As P t with
 |none=>simp only[Hw,h1];exact Ai P o
 |some ty=>
  obtain⟨s1,s2,d,s4⟩:=ty
  obtain⟨i,i1,i2,i3,i4,i5⟩:=An h1
  cases d<;>simp only[Hw,h1]<;>try exact Ai P o
  rename_i e
  cases h2:As P e with
  |none=>exact Ai P o
  |some ety=>
   obtain⟨esz,eb,ed,ez⟩:=ety
   obtain⟨j,j1,j2,j3,j4,j5⟩:=An h2
   simp only at j2
   subst j2
   simp only[Ak]
   intro cf _ fr hp k hk
   have done:∀ (v:V) (h':H),(∀ k',Ep j.size (AN x) (AN y) cf fr hp k'=k' v h')->Ax hp h'->B.val hp.next<=B.val h'.next->
    (∀ ρ w w0 sv xv,A8 ρ hp w w0->A1 ρ (oV (AN x) fr) sv->A1 ρ (oV (AN y) fr) xv->∃ z w',(Builtin.copy_ #[t,t'] o.type #[sv,xv]).run P w=.ok z w'/\A1 ρ v z/\A8 ρ h' w' w0)->
    ∃ v h',(∀ k',Ep j.size (AN x) (AN y) cf fr hp k'=k' v h')/\Ax hp h'/\B.val hp.next<=B.val h'.next/\Ll P o fr hp v h'/\(still P o.op=true->h'=hp/\IJ P o fr v):=by
    intro v h' g1 g2 g3 g4
    refine⟨v,h',g1,g2,g3,fun ρ a w w0 A R=>?_,fun hs=>by rw[h]at hs;exact Bool.noConfusion hs⟩
    obtain⟨z,w',z1,z2,z3⟩:=g4 ρ w w0 _ _ R (A x mx) (A y my)
    refine⟨.value z,w',?_,ρ,Ext.refl _ ρ,z2,z3⟩
    rw[BO P w a o .copy args tys h,ea,et]
    simp only[builtin,Sem.run_bind,z1,Result.andThen_ok]
    rfl
   simp only[Ep,Au]at hk
   rcases ET hk with⟨hv,hk2⟩|⟨id,g,off,len,fin,cap,hv,hk2⟩
   ·rcases ET hk2 with⟨hy,hk3⟩|⟨id',g',off',len',fin',cap',hy,hk3⟩
    ·refine done (.i .i64 (.ofNat 0)) hp (fun k'=>by simp only[Ep,Au,hv,HB,PK,hy]) (Ax.refl hp) (Nat.le_refl _) (fun ρ w w0 sv xv R hs hx=>?_)
     rw[hv]at hs
     rw[hy]at hx
     have hs':sv=.slice none 0 0:=hs
     have hx':xv=.slice none 0 0:=hx
     subst hs'
     subst hx'
     exact⟨_,w,FI i5 j1 rfl rfl (fun a ha=>by cases ha) (fun _=>rfl),rfl,R⟩
    ·refine done (.i .i64 (.ofNat 0)) hp (fun k'=>by simp only[Ep,Au,hv,HB,PK,hy,C4]) (Ax.refl hp) (Nat.le_refl _) (fun ρ w w0 sv xv R hs hx=>?_)
     rw[hv]at hs
     rw[hy]at hx
     have hs':sv=.slice none 0 0:=hs
     obtain⟨L,ad,c,l1,rfl,lc,l3,l4,l5,l6,l7⟩:=hx
     subst hs'
     have hm:Nat.min len' 0=0:=Nat.min_zero _
     refine⟨.int .i64 (Int.ofNat 0),w,?_,rfl,R⟩
     have:=FI (t':=t') (ty:=o.type) (w':=w) (base:=none) (len:=0) (c:=0) (cells:=#[]) i5 j1 (show(Builtin.lenOf (.slice (some ad) len' c)).run P w=.ok len' w from rfl) (by rw[hm];unfold Builtin.firstCells;rw[Nat.zero_mul];rfl) (fun a ha=>by cases ha) (fun _=>rfl)
     rw[hm]at this
     exact this
   ·rcases ET hk2 with⟨hy,hk3⟩|⟨id',g',off',len',fin',cap',hy,hk3⟩
    ·refine done (.i .i64 (.ofNat 0)) hp (fun k'=>by simp only[Ep,Au,hv,C4,KX,hy,HB]) (Ax.refl hp) (Nat.le_refl _) (fun ρ w w0 sv xv R hs hx=>?_)
     rw[hv]at hs
     rw[hy]at hx
     have hx':xv=.slice none 0 0:=hx
     obtain⟨L,ad,c,l1,rfl,lc,l3,l4,l5,l6,l7⟩:=hs
     subst hx'
     have hm:Nat.min 0 len=0:=Nat.zero_min _
     refine⟨.int .i64 (Int.ofNat 0),w,?_,rfl,R⟩
     have:=FI (t':=t') (ty:=o.type) (w':=w) (base:=some ad) (len:=len) (c:=c) (cells:=#[]) i5 j1 (show(Builtin.lenOf (.slice none 0 0)).run P w=.ok 0 w from rfl) (by rw[hm];rfl) (fun a ha=>rfl) (fun _=>rfl)
     rw[hm]at this
     exact this
    ·rcases Lx hk3 with⟨hm,hk4⟩|⟨m,hm,hk4⟩
     ·refine done (.i .i64 (.ofNat 0)) hp (fun k'=>by simp only[Ep,Au,hv,C4,KX,hy,hm,Kn]) (Ax.refl hp) (Nat.le_refl _) (fun ρ w w0 sv xv R hs hx=>?_)
      rw[hv]at hs
      rw[hy]at hx
      obtain⟨L,ad,c,l1,rfl,lc,l3,l4,l5,l6,l7⟩:=hs
      obtain⟨L',ad',c',m1,rfl,mc,m3,m4,m5,m6,m7⟩:=hx
      refine⟨.int .i64 (Int.ofNat 0),w,?_,rfl,R⟩
      have:=FI (t':=t') (ty:=o.type) (w':=w) (base:=some ad) (len:=len) (c:=c) (cells:=#[]) i5 j1 (show(Builtin.lenOf (.slice (some ad') len' c')).run P w=.ok len' w from rfl) (by rw[hm];unfold Builtin.firstCells;rw[Nat.zero_mul];rfl) (fun a ha=>rfl) (fun _=>rfl)
      rw[hm]at this
      exact this
     ·obtain⟨vs,n1,n2,n3⟩:=EI hk4
      rw[n1]at hk4
      obtain⟨h',g1,g2,g3,g4⟩:=GO hk4
      have hml:Nat.min len' len<=len'/\Nat.min len' len<=len:=⟨Nat.min_le_left _ _,Nat.min_le_right _ _⟩
      refine done (.i .i64 (.ofNat (m+1))) h' (fun k'=>by simp only[Ep,Au,hv,C4,KX,hy,hm,Dx];rw[<-hm,n1,g1,hm]) g2 (by rw[g3];exact Nat.le_refl _) (fun ρ w w0 sv xv R hs hx=>?_)
      rw[hv]at hs
      rw[hy]at hx
      obtain⟨L,ad,c,l1,rfl,lc,l3,l4,l5,l6,l7⟩:=hs
      obtain⟨L',ad',c',m1,rfl,mc,m3,m4,m5,m6,m7⟩:=hx
      obtain⟨xs,x1,x2,x3⟩:=n3 ρ w w0 L' R m1 m3 m4
      have hadr:ad=⟨L.b,off-L.s,none⟩:=by
       rcases l5 with⟨h0,_⟩|h1
       ·omega
       ·exact h1
      have hadr':ad'=⟨L'.b,off'-L'.s,none⟩:=by
       rcases m5 with⟨h0,_⟩|h1
       ·omega
       ·exact h1
      subst hadr
      subst hadr'
      obtain⟨s1,s2⟩:=g4 ρ w w0 L xs R l1 l3 l4 x1
      refine⟨.int .i64 (Int.ofNat (m+1)),_,?_,rfl,s2⟩
      have:=FI (t':=t') (ty:=o.type) (base:=some ⟨L.b,off-L.s,none⟩) (len:=len) (c:=c) (cells:=xs.toArray) i5 j1 (show(Builtin.lenOf (.slice (some ⟨L'.b,off'-L'.s,none⟩) len' c')).run P w=.ok len' w from rfl) (by unfold Builtin.firstCells;exact x2 P) (fun a ha=>by cases ha;exact s1 P) (fun hn=>by cases hn)
      rw[hm]at this
      exact this
theorem IH {P:Program} {w:World} {t ty e:TypeId} {v:Value} {base:Option Addr} {n c:Nat} {w':World}
 (hu:P.underlying t=some (.slice e)) (hz:∀ w,(zeroValue e).run P w=.ok v w)
 (h0:base=none\/n=0->w'=w) (hst:∀ a,base=some a->n≠0->(storeCells a (Builtin.zeroCells v.cells n).toList).run P w=.ok () w'):
 (Builtin.clear_ #[t] ty #[.slice base n c]).run P w=.ok (.tuple #[]) w':=by
 unfold Builtin.clear_
 simp only[List.getElem?_toArray,List.getElem?_cons_zero,List.getElem?_cons_succ,Sem.run_bind,run_underlying hu,Result.andThen_ok]
 cases base with
 |none=>rw[h0 (.inl rfl)];rfl
 |some a=>
  cases n with
  |zero=>rw[h0 (.inr rfl)];rfl
  |succ m=>
   simp only[Sem.run_bind,hz,Result.andThen_ok,hst a rfl (Nat.succ_ne_zero m)];rfl
theorem SE (P:Program) (o:Oper) (t:TypeId) (x:Operand) (args:Array Operand) (tys:Array TypeId) (ha:args.toList=[x]) (ht:tys.toList=[t])
 (h:o.op=.call ⟨.builtin .clear,args,tys⟩):Ae P o (runK (Gk P t (AN x))):=by
 have ea:∀ a:Act,args.map a.eval=#[a.eval x]:=fun a=>by apply Array.ext';simp[ha]
 have et:tys=#[t]:=by apply Array.ext';simp[ht]
 have mx:x∈o.op.operands.toList:=by rw[h];simp[Op.operands,Call.operands,<-Array.mem_toList_iff,ha]
 cases h1:As P t with
 |none=>simp only[Gk,h1];exact Ai P o
 |some ty=>
  obtain⟨s1,s2,d,s4⟩:=ty
  obtain⟨i,i1,i2,i3,i4,i5⟩:=An h1
  cases d<;>simp only[Gk,h1]<;>try exact Ai P o
  rename_i e
  cases h2:As P e with
  |none=>exact Ai P o
  |some ety=>
   obtain⟨esz,eb,ed,ez⟩:=ety
   obtain⟨j,j1,j2,j3,j4,j5⟩:=An h2
   simp only at j2 j4
   cases hc:(Nat.beq ez.length esz&&Nat.ble 1 esz)with
   |false=>simp only[HO,hc];exact Ai P o
   |true=>
   simp only[HO,hc,Ak]
   simp only[Bool.and_eq_true]at hc
   have hz1:ez.length=esz:=Nat.eq_of_beq_eq_true hc.1
   have hz2:1<=esz:=Nat.le_of_ble_eq_true hc.2
   intro cf _ fr hp k hk
   have done:∀ (h':H),(∀ k',EC ez (AN x) cf fr hp k'=k' (.tu []) h')->Ax hp h'->B.val hp.next<=B.val h'.next->
    (∀ ρ w w0 sv,A8 ρ hp w w0->A1 ρ (oV (AN x) fr) sv->∃ w',(Builtin.clear_ #[t] o.type #[sv]).run P w=.ok (.tuple #[]) w'/\A8 ρ h' w' w0)->
    ∃ v h',(∀ k',EC ez (AN x) cf fr hp k'=k' v h')/\Ax hp h'/\B.val hp.next<=B.val h'.next/\Ll P o fr hp v h'/\(still P o.op=true->h'=hp/\IJ P o fr v):=by
    intro h' g1 g2 g3 g4
    refine⟨.tu [],h',g1,g2,g3,fun ρ a w w0 A R=>?_,fun hs=>by rw[h]at hs;exact Bool.noConfusion hs⟩
    obtain⟨w',z1,z3⟩:=g4 ρ w w0 _ R (A x mx)
    refine⟨.value (.tuple #[]),w',?_,ρ,Ext.refl _ ρ,⟨#[],rfl,trivial⟩,z3⟩
    rw[BO P w a o .clear args tys h,ea,et]
    simp only[builtin,Sem.run_bind,z1,Result.andThen_ok]
    rfl
   obtain⟨zv,zv1,_⟩:=DJ (ρ:=fun _ _=>none) (z:=j.zero) (by rw[j4];omega)
   simp only[EC,Au]at hk
   rcases ET hk with⟨hv,hk2⟩|⟨id,g,off,len,fin,cap,hv,hk2⟩
   ·refine done hp (fun k'=>by simp only[EC,Au,hv,HB]) (Ax.refl hp) (Nat.le_refl _) (fun ρ w w0 sv R hs=>?_)
    rw[hv]at hs
    have hs':sv=.slice none 0 0:=hs
    subst hs'
    exact⟨w,IH i5 (Ca j1 zv1) (fun _=>rfl) (fun a ha=>by cases ha),R⟩
   ·rcases Lx hk2 with⟨hm,hk3⟩|⟨m,hm,hk3⟩
    ·refine done hp (fun k'=>by simp only[EC,Au,hv,C4,hm,Kn]) (Ax.refl hp) (Nat.le_refl _) (fun ρ w w0 sv R hs=>?_)
     rw[hv]at hs
     obtain⟨L,ad,c,l1,rfl,lc,l3,l4,l5,l6,l7⟩:=hs
     exact⟨w,IH i5 (Ca j1 zv1) (fun _=>rfl) (fun a ha hn=>absurd hm hn),R⟩
    ·obtain⟨h',g1,g2,g3,g4⟩:=GO hk3
     refine done h' (fun k'=>by simp only[EC,Au,hv,C4,hm,Dx];rw[<-hm,g1]) g2 (by rw[g3];exact Nat.le_refl _) (fun ρ w w0 sv R hs=>?_)
     rw[hv]at hs
     obtain⟨L,ad,c,l1,rfl,lc,l3,l4,l5,l6,l7⟩:=hs
     have hadr:ad=⟨L.b,off-L.s,none⟩:=by
      rcases l5 with⟨h0,_⟩|h1
      ·omega
      ·exact h1
     subst hadr
     obtain⟨v,v1,v2⟩:=DJ (ρ:=ρ) (z:=j.zero) (by rw[j4];omega)
     obtain rfl:zv=v:=by rw[v1]at zv1;exact(Option.some.inj zv1).symm
     rw[j4]at v2
     have hvs:zv.cells.size=ez.length:=by have:=v2.length;simp at this;omega
     have hr:BJ ρ (Db ez len) (Builtin.zeroCells zv.cells len).toList:=by
      have:=Ls v2 (by omega) len
      unfold Builtin.zeroCells
      rw[hvs];rw[hvs]at this;exact this
     obtain⟨q1,q2⟩:=g4 ρ w w0 L _ R l1 l3 l4 hr
     exact⟨_,IH i5 (Ca j1 v1) (fun hx=>by rcases hx with hx|hx;cases hx;omega) (fun a ha _=>by cases ha;exact q1 P),q2⟩
theorem Qp (P:Program) (o:Oper) (t t' e:TypeId) (x y:Operand) (args:Array Operand) (tys:Array TypeId) (ha:args.toList=[x,y]) (ht:tys.toList=[t,t'])
 (hu:P.underlying t=some (.slice e)) (h:o.op=.call ⟨.builtin .copy,args,tys⟩):Ae P o (runK (HI (As P e) (AN x) (AN y))):=by
 have ea:∀ a:Act,args.map a.eval=#[a.eval x,a.eval y]:=fun a=>by apply Array.ext';simp[ha]
 have et:tys=#[t,t']:=by apply Array.ext';simp[ht]
 have mx:x∈o.op.operands.toList:=by rw[h];simp[Op.operands,Call.operands,<-Array.mem_toList_iff,ha]
 have my:y∈o.op.operands.toList:=by rw[h];simp[Op.operands,Call.operands,<-Array.mem_toList_iff,ha]
 cases h2:As P e with
 |none=>exact Ai P o
 |some ety=>
  obtain⟨j,j1,j2,j3,j4,j5⟩:=An h2
  unfold HI
  split
  ·rename_i bytes z heq
   cases heq
   simp only at j2
   intro cf _ fr hp k hk
   simp only[Ak,Gw,Au]at hk
   rcases ET hk with⟨hv,hk2⟩|⟨id,g,off,len,fin,cap,hv,hk2⟩
   ·cases hk2
   rcases Lx hk2 with⟨hm,hk3⟩|⟨m,hm,hk3⟩
   ·cases hk3
   unfold Gv at hk3
   obtain⟨n,vs,n1,n2,n3⟩:=IB hk3
   rw[n1]at hk3
   obtain⟨hb,hk4⟩:=AW hk3
   have hn:n=len:=Nat.eq_of_beq_eq_true hb
   obtain⟨h',g1,g2,g3,g4⟩:=GO hk4
   refine⟨.i .i64 (.ofNat n),h',fun k'=>?_,g2,by rw[g3];exact Nat.le_refl _,fun ρ a w w0 A R=>?_,fun hs=>by rw[h]at hs;exact Bool.noConfusion hs⟩
   ·simp only[Ak,Gw,Au,hv,C4,hm,Dx]
    unfold Gv
    rw[n1,<-hm,hb,AH,g1]
   have hs:=A x mx
   have hx:=A y my
   rw[hv]at hs
   obtain⟨L,ad,c,l1,l2,lc,l3,l4,l5,l6,l7⟩:=hs
   obtain⟨q1,new,q2,q3⟩:=n3 ρ _ hx
   have hadr:ad=⟨L.b,off-L.s,none⟩:=by
    rcases l5 with⟨h0,_⟩|h1
    ·omega
    ·exact h1
   subst hadr
   obtain⟨s1,s2⟩:=g4 ρ w w0 L new.toList R l1 l3 l4 q2
   refine⟨.value (.int .i64 (Int.ofNat n)),_,?_,ρ,Ext.refl _ ρ,rfl,s2⟩
   rw[BO P w a o .copy args tys h,ea,et,l2]
   have hmn:Nat.min n len=n:=by rw[hn];exact Nat.min_self _
   have:=FI (P:=P) (t':=t') (ty:=o.type) (base:=some ⟨L.b,off-L.s,none⟩) (len:=len) (c:=c) (cells:=new) hu j1 (q1 P w) (by rw[hmn,j2];exact q3 P w) (fun a ha=>by cases ha;exact s1 P) (fun hn=>by cases hn)
   rw[hmn]at this
   simp only[builtin,Sem.run_bind,this,Result.andThen_ok]
   rfl
  ·exact Ai P o
theorem RQ (P:Program) (o:Oper) (t t':TypeId) (x y:Operand) (args:Array Operand) (tys:Array TypeId) (ha:args.toList=[x,y]) (ht:tys.toList=[t,t'])
 (h:o.op=.call ⟨.builtin .copy,args,tys⟩):Ae P o (runK (Ik P t t' (AN x) (AN y))):=by
 unfold Ik
 split
 ·unfold K6
  split
  ·rename_i hty
   obtain⟨i,i1,i2,i3,i4,i5⟩:=An hty
   exact Qp P o t t' _ x y args tys ha ht i5 h
  ·exact Ai P o
 ·exact Vh P o t t' x y args tys ha ht h
theorem jG (P:Program) (o:Oper) (t:TypeId) (x:Operand) (args:Array Operand) (tys:Array TypeId) (ha:args.toList=[x]) (ht:tys.toList=[t])
 (h:o.op=.call ⟨.builtin .len,args,tys⟩):Ae P o (runK (JY P t (AN x))):=by
 have ea:∀ a:Act,args.map a.eval=#[a.eval x]:=fun a=>by apply Array.ext';simp[ha]
 have et:tys=#[t]:=by apply Array.ext';simp[ht]
 cases h1:As P t with
 |none=>simp only[JY,h1];exact Ai P o
 |some ty=>
  obtain⟨s1,s2,d,s4⟩:=ty
  obtain⟨i,i1,i2,i3,i4,i5⟩:=An h1
  cases d<;>simp only[JY,h1]<;>try exact Ai P o
  ·refine Ae.calm fun cf fr hp k hk=>?_
   simp only[Ak,CY,Au,AQ]at hk
   obtain⟨len,n,hv,hk⟩:=EH hk
   refine⟨.i .i64 len,fun k'=>by simp only[Ak,CY,Au,AQ,hv,Hd];rfl,fun ρ a A w=>?_⟩
   have hx:=(A x (by rw[h];simp[Op.operands,Call.operands,<-Array.mem_toList_iff,ha]))
   rw[hv]at hx
   obtain⟨bs,b1,b2,b3⟩:=hx
   refine⟨.int .i64 len,?_,rfl⟩
   rw[BO P w a o .len args tys h,ea,et,b1]
   unfold builtin Builtin.len_
   simp only[List.getElem?_toArray,List.getElem?_cons_zero,Sem.run_bind,run_underlying i5,Result.andThen_ok,b2]
   rfl
  ·refine Ae.calm fun cf fr hp k hk=>?_
   simp only[Ak,A9,Au,AQ]at hk
   rcases ET hk with⟨hv,hk⟩|⟨id,g,off,len,fin,cap,hv,hk⟩
   ·refine⟨.i .i64 0,fun k'=>by simp only[Ak,A9,Au,AQ,hv,HB];rfl,fun ρ a A w=>?_⟩
    have hx:=(A x (by rw[h];simp[Op.operands,Call.operands,<-Array.mem_toList_iff,ha]))
    rw[hv]at hx
    have hx':a.eval x=.slice none 0 0:=hx
    refine⟨.int .i64 0,?_,rfl⟩
    rw[BO P w a o .len args tys h,ea,et,hx']
    unfold builtin Builtin.len_
    simp only[List.getElem?_toArray,List.getElem?_cons_zero,Sem.run_bind,run_underlying i5,Result.andThen_ok]
    rfl
   ·refine⟨.i .i64 len,fun k'=>by simp only[Ak,A9,Au,AQ,hv,C4];rfl,fun ρ a A w=>?_⟩
    have hx:=(A x (by rw[h];simp[Op.operands,Call.operands,<-Array.mem_toList_iff,ha]))
    rw[hv]at hx
    obtain⟨L,ad,c,l1,hx',l3⟩:=hx
    refine⟨.int .i64 len,?_,rfl⟩
    rw[BO P w a o .len args tys h,ea,et,hx']
    unfold builtin Builtin.len_
    simp only[List.getElem?_toArray,List.getElem?_cons_zero,Sem.run_bind,run_underlying i5,Result.andThen_ok]
    rfl
  ·exact P2 P o t _ _ x args tys ha ht (by simp only[KW,h1]) i5 h
theorem dA (P:Program) (o:Oper) (x y:Operand) (args:Array Operand) (tys:Array TypeId) (ha:args.toList=[x,y])
 (h:o.op=.call ⟨.builtin .min,args,tys⟩):Ae P o (Iu (AN x) (AN y)):=by
 have ea:∀ a:Act,args.map a.eval=#[a.eval x,a.eval y]:=fun a=>by apply Array.ext';simp[ha]
 refine Ae.calm fun cf fr hp k hk=>?_
 simp only[Iu,Au,AQ]at hk
 obtain⟨kd,m,hm,hk⟩:=Cy hk
 obtain⟨kd',n,hn,hk⟩:=Cy hk
 obtain⟨he,hk2⟩:=AW hk
 have hkd:=Dn he
 subst hkd
 refine⟨.i kd (if n<m then n else m),fun k'=>?_,fun ρ a A w=>?_⟩
 ·simp only[Iu,Au,AQ,hm,Cz,hn,he,AH,EP]
  by_cases hlt:n<m<;>simp[hlt]
 ·have hx:=(A x (by rw[h];simp[Op.operands,Call.operands,<-Array.mem_toList_iff,ha]))
  rw[hm]at hx
  have hx':a.eval x=.int kd m:=hx
  have hy:=(A y (by rw[h];simp[Op.operands,Call.operands,<-Array.mem_toList_iff,ha]))
  rw[hn]at hy
  have hy':a.eval y=.int kd n:=hy
  refine⟨.int kd (if n<m then n else m),?_,rfl⟩
  rw[BO P w a o .min args tys h,ea,hx',hy']
  rfl
theorem fQ (P:Program) (o:Oper) (x y:Operand) (args:Array Operand) (tys:Array TypeId) (ha:args.toList=[x,y])
 (h:o.op=.call ⟨.builtin .max,args,tys⟩):Ae P o (ES (AN x) (AN y)):=by
 have ea:∀ a:Act,args.map a.eval=#[a.eval x,a.eval y]:=fun a=>by apply Array.ext';simp[ha]
 refine Ae.calm fun cf fr hp k hk=>?_
 simp only[ES,Au,AQ]at hk
 obtain⟨kd,m,hm,hk⟩:=Cy hk
 obtain⟨kd',n,hn,hk⟩:=Cy hk
 obtain⟨he,hk2⟩:=AW hk
 have hkd:=Dn he
 subst hkd
 refine⟨.i kd (if n>m then n else m),fun k'=>?_,fun ρ a A w=>?_⟩
 ·simp only[ES,Au,AQ,hm,Cz,hn,he,AH,EP]
  by_cases hlt:m<n<;>simp[hlt]
 ·have hx:=(A x (by rw[h];simp[Op.operands,Call.operands,<-Array.mem_toList_iff,ha]))
  rw[hm]at hx
  have hx':a.eval x=.int kd m:=hx
  have hy:=(A y (by rw[h];simp[Op.operands,Call.operands,<-Array.mem_toList_iff,ha]))
  rw[hn]at hy
  have hy':a.eval y=.int kd n:=hy
  refine⟨.int kd (if n>m then n else m),?_,rfl⟩
  rw[BO P w a o .max args tys h,ea,hx',hy']
  rfl
theorem RG (P:Program) (o:Oper) (x y:Operand) (b:Builtin) (f:Nat->Nat->Nat->Nat->Bool) (args:Array Operand) (tys:Array TypeId) (ha:args.toList=[x,y])
 (h:o.op=.call ⟨.builtin b,args,tys⟩) (hb:∀ (P:Program) (w:World) (c:Array Bool) (u v:ByteArray),(builtin b tys o.type c #[.string u,.string v]).run P w=.ok (.value (.string (if f u.data.toList.length (pk u.data.toList) v.data.toList.length (pk v.data.toList)then u else v))) w):Ae P o (GF f (AN x) (AN y)):=by
 have ea:∀ a:Act,args.map a.eval=#[a.eval x,a.eval y]:=fun a=>by apply Array.ext';simp[ha]
 refine Ae.calm fun cf t hp k hk=>?_
 simp only[GF,AQ]at hk
 obtain⟨la,na,h1,hk2⟩:=EH hk
 obtain⟨lb,nb,h2,hk3⟩:=EH hk2
 refine⟨if f la na lb nb then .s la na else .s lb nb,fun k'=>?_,fun ρ a A w=>?_⟩
 ·simp only[GF,AQ,h1,Hd,h2]
  cases f la na lb nb<;>rfl
 ·have hx:=(A x (by rw[h];simp[Op.operands,Call.operands,<-Array.mem_toList_iff,ha]))
  rw[h1]at hx
  obtain⟨bx,ex,lx,px,sx⟩:=Gc hx
  have hy:=(A y (by rw[h];simp[Op.operands,Call.operands,<-Array.mem_toList_iff,ha]))
  rw[h2]at hy
  obtain⟨by',ey,ly,py,sy⟩:=Gc hy
  refine⟨.string (if f la na lb nb then bx else by'),?_,?_⟩
  ·rw[BO P w a o b args tys h,ea,ex,ey,hb,lx,px,ly,py]
  ·rw[ex]at hx
   rw[ey]at hy
   cases f la na lb nb
   ·exact hy
   ·exact hx
theorem UT (P:Program) (o:Oper) (x y:Operand) (args:Array Operand) (tys:Array TypeId) (s:Bool) (ha:args.toList=[x,y])
 (h:o.op=.call ⟨.builtin .min,args,tys⟩):Ae P o (runK (O8 s (AN x) (AN y))):=by
 cases s
 ·exact dA P o x y args tys ha h
 ·refine RG P o x y .min _ args tys ha h fun P w c u v=>?_
  simp only[builtin,Builtin.min_,List.foldlM,Builtin.min2,Op.stringOp,II,HJ]
  rfl
theorem VY (P:Program) (o:Oper) (x y:Operand) (args:Array Operand) (tys:Array TypeId) (s:Bool) (ha:args.toList=[x,y])
 (h:o.op=.call ⟨.builtin .max,args,tys⟩):Ae P o (runK (PQ s (AN x) (AN y))):=by
 cases s
 ·exact fQ P o x y args tys ha h
 ·refine RG P o x y .max _ args tys ha h fun P w c u v=>?_
  simp only[builtin,Builtin.max_,List.foldlM,Builtin.max2,Op.stringOp,II]
  rfl
theorem Nj (P:Program) (o:Oper) (b:Builtin) (args:Array Operand) (tys:Array TypeId) (h:o.op=.call ⟨.builtin b,args,tys⟩):Ae P o (runK (GM P b (args.toList.map AN) tys.toList)):=by
 unfold GM
 split
 ·rename_i x t hx ht
  generalize ha:args.toList=al at hx
  match al,hx with
  |[y],hx=>simp only[List.map_cons,List.map_nil,List.cons.injEq,and_true]at hx;subst hx;exact jG P o t y args tys ha ht h
  |[],hx=>simp at hx
  |_::_::_,hx=>simp at hx
 ·rename_i x y hx
  generalize ha:args.toList=al at hx
  match al,hx with
  |[p,q],hx=>simp only[List.map_cons,List.map_nil,List.cons.injEq,and_true]at hx;obtain⟨rfl,rfl⟩:=hx;exact UT P o p q args tys _ ha h
  |[],hx=>simp at hx
  |[_],hx=>simp at hx
  |_::_::_::_,hx=>simp at hx
 ·rename_i x y hx
  generalize ha:args.toList=al at hx
  match al,hx with
  |[p,q],hx=>simp only[List.map_cons,List.map_nil,List.cons.injEq,and_true]at hx;obtain⟨rfl,rfl⟩:=hx;exact VY P o p q args tys _ ha h
  |[],hx=>simp at hx
  |[_],hx=>simp at hx
  |_::_::_::_,hx=>simp at hx
 ·rename_i x y t t' hx ht
  generalize ha:args.toList=al at hx
  match al,hx with
  |[p,q],hx=>simp only[List.map_cons,List.map_nil,List.cons.injEq,and_true]at hx;obtain⟨rfl,rfl⟩:=hx;exact Qc P o t t' p q args tys ha ht h
  |[],hx=>simp at hx
  |[_],hx=>simp at hx
  |_::_::_::_,hx=>simp at hx
 ·rename_i x y t t' hx ht
  generalize ha:args.toList=al at hx
  match al,hx with
  |[p,q],hx=>simp only[List.map_cons,List.map_nil,List.cons.injEq,and_true]at hx;obtain⟨rfl,rfl⟩:=hx;exact RQ P o t t' p q args tys ha ht h
  |[],hx=>simp at hx
  |[_],hx=>simp at hx
  |_::_::_::_,hx=>simp at hx
 ·rename_i x hx
  generalize ha:args.toList=al at hx
  match al,hx with
  |[p],hx=>simp only[List.map_cons,List.map_nil,List.cons.injEq,and_true]at hx;subst hx;exact TK P o p args tys ha h
  |[],hx=>simp at hx
  |_::_::_,hx=>simp at hx
 ·rename_i x y t t' hx ht
  generalize ha:args.toList=al at hx
  match al,hx with
  |[p,q],hx=>simp only[List.map_cons,List.map_nil,List.cons.injEq,and_true]at hx;obtain⟨rfl,rfl⟩:=hx;exact Pf P o t t' p q args tys ha ht h
  |[],hx=>simp at hx
  |[_],hx=>simp at hx
  |_::_::_::_,hx=>simp at hx
 ·rename_i x y t t' hx ht
  generalize ha:args.toList=al at hx
  match al,hx with
  |[p,q],hx=>
   simp only[List.map_cons,List.map_nil,List.cons.injEq,and_true]at hx;obtain⟨rfl,rfl⟩:=hx
   unfold NX
   split
   ·rename_i hty
    obtain⟨i,i1,i2,i3,i4,i5⟩:=An hty
    exact UJ P o t t' _ p q args tys ha ht i5 h
   ·exact Ai P o
  |[],hx=>simp at hx
  |[_],hx=>simp at hx
  |_::_::_::_,hx=>simp at hx
 ·rename_i x t hx ht
  generalize ha:args.toList=al at hx
  match al,hx with
  |[p],hx=>simp only[List.map_cons,List.map_nil,List.cons.injEq,and_true]at hx;subst hx;exact SE P o t p args tys ha ht h
  |[],hx=>simp at hx
  |_::_::_,hx=>simp at hx
 ·exact Ai P o
theorem Nw (P:Program) (o:Oper) (f:FuncId) (args:Array Operand) (tys:Array TypeId) (h:o.op=.call ⟨.value (.func f),args,tys⟩):Ae P o (runK (Ld P f (args.toList.map AN))):=by
 unfold Ld
 split
 ·exact L6 P o f args tys h
 ·rename_i fn hf
  split
  ·exact L6 P o f args tys h
  ·rename_i hb
   unfold Oi
   split
   ·rename_i hn
    simp only[Bool.and_eq_true,beq_iff_eq]at hn
    split
    ·rename_i x hx
     generalize ha:args.toList=al at hx
     match al,hx with
     |[p],hx=>simp only[List.map_cons,List.map_nil,List.cons.injEq,and_true]at hx;subst hx;exact YT P o f fn hf hb p args tys ha hn.1 hn.2 h
     |[],hx=>simp at hx
     |_::_::_,hx=>simp at hx
    ·exact Ai P o
   ·unfold Mq
    split
    ·rename_i hn
     simp only[Bool.and_eq_true,beq_iff_eq]at hn
     split
     ·rename_i x y hx
      generalize ha:args.toList=al at hx
      match al,hx with
      |[p,q],hx=>
       simp only[List.map_cons,List.map_nil,List.cons.injEq,and_true]at hx
       obtain⟨rfl,rfl⟩:=hx
       exact U6 P o f fn hf hb p q args tys ha hn.1 hn.2 h
      |[],hx=>simp at hx
      |[_],hx=>simp at hx
      |_::_::_::_,hx=>simp at hx
     ·exact Ai P o
    ·exact L6 P o f args tys h
theorem Pz (P:Program) (o:Oper) (c:Call) (h:o.op=.call c):Ae P o (runK (Md P c)):=by
 obtain⟨cal,args,tys⟩:=c
 cases cal with
 |builtin b=>exact Nj P o b args tys h
 |invoke r m=>exact Ai P o
 |value f=>
  cases f with
  |func f=>exact Nw P o f args tys h
  |tmp n=>exact TE P o n args tys h
  |const _=>exact Ai P o
  |global _=>exact Ai P o
/--EVERY OPERATION:what the evaluator makes of it is what the model makes of it. -/
theorem D7 (P:Program) (o:Oper):Ae P o (runK (Ad P o.op)):=by
 cases h:o.op with
 |move x=>exact PO P o x (.inl h)
 |assign x=>exact PO P o x (.inr h)
 |pick c x y=>exact L8 P o c x y h
 |alloc e=>exact PU P o e h
 |box e x=>exact bt P o e x h
 |build t ps=>exact Sh P o t ps h
 |buildSlice t n ps=>exact Kj P o t n ps h
 |load t x=>exact Tn P o t x h
 |store t x y=>exact OE P o t x y h
 |binOp op tx x y ty=>exact TI P o op tx ty x y h
 |unOp op tx x=>exact Vm P o op tx x h
 |convert s d x=>exact VJ P o s d x h
 |makeSlice t l c=>exact Lr P o t l c h
 |fieldAddr t x n=>exact Lj P o t x n h
 |field t x n=>exact RE P o t x n h
 |indexAddr t x y=>exact L5 P o t x y h
 |extract x n=>exact OL P o x n h
 |nilCheck x=>exact Mv P o x h
 |index t x y=>exact Ro P o t x y h
 |slice t x lo hi mx=>exact Sx P o t x lo hi mx h
 |call c=>exact Pz P o c h
 |lookup t x q ok=>exact Pu P o t x q ok h
 |mapUpdate t x q v=>exact PY P o t x q v h
 |makeMap t r=>exact N6 P o t r h
 |makeFunc fn first cap=>exact XB P o fn first cap h
 |_=>exact Ai P o
end Go.Ev
namespace Go.Ev
open Go
theorem CS.up {ρ ρ':BC} {nt:Nat} {t:F} {a:Act} (A:CS ρ nt t a) (h:ρ.le ρ'):CS ρ' nt t a:=
 ⟨A.defers,A.size,fun n hn=>A1.up h _ _ (A.slot n hn)⟩
theorem Qg {nt:Nat} {dst:Option Tmp} {v:V} {t:F} {k:F->Bool} (hk:Dd (C0 nt dst) v t k=true):
 ∃ t',(∀ k',Dd (C0 nt dst) v t k'=k' t')/\∀ ρ a x,CS ρ nt t a->A1 ρ v x->CS ρ nt t' (a.put dst x):=by
 cases dst with
 |none=>exact⟨t,fun _=>rfl,fun ρ a x A _=>A⟩
 |some d=>
  have e:C0 nt (some d)=match Nat.ble (Nat.succ d) nt&&Nat.ble (Nat.succ d) 512 with|true=>.some (AT d)|false=>.bad:=rfl
  rw[e]at hk⊢
  cases hb:(Nat.ble (Nat.succ d) nt&&Nat.ble (Nat.succ d) 512)with
  |false=>rw[hb]at hk;exact Bool.noConfusion hk
  |true=>
   obtain⟨t',h1,h2,h3⟩:=Fq (AT d) v t
   simp only[Bool.and_eq_true]at hb
   have hn:d<nt:=Nat.le_of_ble_eq_true hb.1
   have h5:d<512:=Nat.le_of_ble_eq_true hb.2
   refine⟨t',fun k'=>h1 k',fun ρ a x A hv=>⟨A.defers,by simp[Act.put,A.size],fun n hn'=>?_⟩⟩
   by_cases hnd:n=d
   ·subst hnd
    rw[h2]
    have:((a.put (some n) x).tmps.getD n undef)=x:=by
     simp[Act.put,A.size,hn]
    rw[this];exact hv
   ·rw[h3 _ (fun e=>hnd (Hr hn' h5 e))]
    have:((a.put (some d) x).tmps.getD n undef)=a.tmps.getD n undef:=by
     simp only[Act.put,Array.getD_eq_getD_getElem?,Array.getElem?_setIfInBounds]
     rw[if_neg (fun e=>hnd e.symm)]
    rw[this];exact A.slot n hn'
theorem jz {v:V} {w:Bool} {k:Bool->Bool} (h:vG v w k=true):∃ b,(∀ k',vG v w k'=k' b)/\((∃ x,v=.b x/\b=(x==w))\/(v=.tu []/\b=false)):=by
 cases v<;>try exact Bool.noConfusion h
 ·rename_i x
  exact⟨xor (xor x w) true,fun _=>rfl,.inl ⟨x,rfl,by cases x<;>cases w<;>rfl⟩⟩
 ·rename_i cs
  cases cs with
  |nil=>exact⟨false,fun _=>rfl,.inr ⟨rfl,rfl⟩⟩
  |cons y ys=>exact Bool.noConfusion h
theorem Hi {nt:Nat} {ops:Array Oper} {o:Oper} {t:F} {k:Bool->Bool} (hk:CZ (BK nt ops.toList o.guard) t k=true):
 ∃ b,(∀ k',CZ (BK nt ops.toList o.guard) t k'=k' b)/\∀ (ρ:BC) (a:Act),a.tmps.size=nt->(∀ d∈OV ops.toList o,d<512->A1 ρ (Bm (AT d) t) (a.tmps.getD d undef))->Region.wanted o (yielded ops a.tmps)=b:=by
 cases hg:o.guard with
 |none=>
  refine⟨true,fun _=>rfl,fun ρ a _ _=>?_⟩
  simp[Region.wanted,hg]
 |some jw=>
  obtain⟨j,w⟩:=jw
  rw[hg]at hk
  cases hj:ops.toList[j]? with
  |none=>
   have e0:BK nt ops.toList (some (j,w))=.bad:=by simp only[BK,hj]
   rw[e0]at hk;exact Bool.noConfusion hk
  |some oj=>
  obtain⟨dst,e1,e2,e3,e4,e5⟩:=oj
  cases dst with
  |none=>
   have e0:BK nt ops.toList (some (j,w))=.bad:=by simp only[BK,hj]
   rw[e0]at hk;exact Bool.noConfusion hk
  |some d=>
   have e0:BK nt ops.toList (some (j,w))=match Nat.ble (Nat.succ d) nt&&Nat.ble (Nat.succ d) 512 with|true=>.some (AT d) w|false=>.bad:=by simp only[BK,hj];rfl
   rw[e0]at hk⊢
   cases hb:(Nat.ble (Nat.succ d) nt&&Nat.ble (Nat.succ d) 512)with
   |false=>rw[hb]at hk;exact Bool.noConfusion hk
   |true=>
    rw[hb]at hk
    simp only[Bool.and_eq_true]at hb
    have hn:d<nt:=Nat.le_of_ble_eq_true hb.1
    have h5:d<512:=Nat.le_of_ble_eq_true hb.2
    obtain⟨b,h1,h2⟩:=jz hk
    refine⟨b,h1,fun ρ a hsz A=>?_⟩
    have hs:=A d (by simp[OV,hg,hj,Ho]) h5
    have hj':ops[j]? =some ⟨some d,e1,e2,e3,e4,e5⟩:=by simpa using hj
    have ht:a.tmps[d]? =some (a.tmps.getD d undef):=by
     have:d<a.tmps.size:=by rw[hsz];exact hn
     simp[this]
    simp only[Region.wanted,hg,yielded,hj',Option.bind_some,ht]
    rcases h2 with⟨x,hx,hb2⟩|⟨hx,hb2⟩
    ·rw[hx]at hs
     have hs':a.tmps.getD d undef=.bool x:=hs
     rw[hs',hb2]
     cases x<;>cases w<;>rfl
    ·rw[hx]at hs
     obtain⟨arr,e,_⟩:=hs
     rw[e,hb2]
     rfl
theorem eO.upon {P:Program} {o:Oper} {a:Act} {nx:Next} {w:World} {Post:Value->World->Prop} {next:Act->World->Prop} {Q:Exit->Act->World->Prop} (h:eO P nx w Post)
 (hn:∀ x w',Post x w'->next (a.put o.dst x) w'):o.upon P a next Q (.ok nx w):=by
 cases nx<;>try exact h.elim
 ·exact hn _ _ h
 ·exact hn _ _ h
 ·refine Calls.mono h fun e w' he=>?_
  obtain⟨x,rfl,hx⟩:=he
  exact hn _ _ hx
/--one operation's turn -/
theorem WB {P:Program} {cf:Bn} (hcf:Fg P cf) {nt:Nat} {ops:Array Oper} {o:Oper} {HA:Bool} {t:F} {h:H} {ih:F->H->(F->H->Bool)->Bool} {k:F->H->Bool}
 (hk:Lw ⟨BK nt ops.toList o.guard,C0 nt o.dst,HA,Ad P o.op⟩ cf ih t h k=true):
 ∃ t' h',(∀ k',Lw ⟨BK nt ops.toList o.guard,C0 nt o.dst,HA,Ad P o.op⟩ cf ih t h k'=ih t' h' k')/\Ax h h'/\B.val h.next<=B.val h'.next/\
  ∀ ρ a w w0 (next:Act->World->Prop) (Q:Exit->Act->World->Prop),CS ρ nt t a->A8 ρ h w w0->(∀ ρ' a' w',Ext h.floor ρ ρ'->CS ρ' nt t' a'->A8 ρ' h' w' w0->next a' w')->
   if Region.wanted o (yielded ops a.tmps)then o.wp P a w next Q else next (a.put o.dst undef) w:=by
 have e:∀ k',Lw ⟨BK nt ops.toList o.guard,C0 nt o.dst,HA,Ad P o.op⟩ cf ih t h k'=CZ (BK nt ops.toList o.guard) t fun b=>KE b (Ad P o.op) (C0 nt o.dst) cf ih t h k':=fun _=>rfl
 rw[e]at hk
 obtain⟨b,g1,g2⟩:=Hi hk
 rw[g1]at hk
 cases b with
 |false=>
  have e2:∀ k',KE false (Ad P o.op) (C0 nt o.dst) cf ih t h k'=Dd (C0 nt o.dst) (.tu []) t fun t=>ih t h k':=fun _=>rfl
  rw[e2]at hk
  obtain⟨t',p1,p2⟩:=Qg hk
  refine⟨t',h,fun k'=>by rw[e,g1,e2,p1],Ax.refl h,Nat.le_refl _,fun ρ a w w0 next Q A R hn=>?_⟩
  rw[g2 ρ a A.size (fun d _ hd=>A.slot d hd)]
  simp only[Bool.false_eq_true,if_false]
  exact hn ρ _ w (Ext.refl _ ρ) (p2 ρ a undef A ⟨#[],rfl,trivial⟩) R
 |true=>
  have e2:∀ k',KE true (Ad P o.op) (C0 nt o.dst) cf ih t h k'=runK (Ad P o.op) cf t h (fun v h=>Dd (C0 nt o.dst) v t fun t=>ih t h k'):=fun _=>rfl
  rw[e2]at hk
  obtain⟨v,h',r1,r2,r3,r4,_⟩:=D7 P o cf hcf t h _ hk
  rw[r1]at hk
  obtain⟨t',p1,p2⟩:=Qg hk
  refine⟨t',h',fun k'=>by rw[e,g1,e2,r1,p1],r2,r3,fun ρ a w w0 next Q A R hn=>?_⟩
  rw[g2 ρ a A.size (fun d _ hd=>A.slot d hd)]
  simp only[if_true]
  obtain⟨nx,w1,x1,x2⟩:=r4 ρ a w w0 (A.ops _) R
  unfold Oper.wp
  rw[x1]
  exact x2.upon fun x w' ⟨ρ',y1,y2,y3⟩=>hn ρ' _ w' y1 (p2 ρ' a x (A.up y1.1) y2) y3
theorem Sz {P:Program} {cf:Bn} (hcf:Fg P cf) {nt:Nat} {ops:Array Oper} (bars:Nat->Bool):∀ (l:List Oper) (n:Nat),ops.toList.drop n=l->∀ (t:F) (h:H) (k:F->H->Bool),
 DD cf (Ac bars P nt ops.toList (Ad P) n l) t h k=true->
 ∃ t' h',(∀ k',DD cf (Ac bars P nt ops.toList (Ad P) n l) t h k'=k' t' h')/\Ax h h'/\B.val h.next<=B.val h'.next/\
  ∀ ρ a w w0 (Q:Exit->Act->World->Prop),CS ρ nt t a->A8 ρ h w w0->(∀ ρ' a' w',Ext h.floor ρ ρ'->CS ρ' nt t' a'->A8 ρ' h' w' w0->Q .normal a' w')->
   wpOps P ops Q (List.range' n l.length) a w:=by
 intro l
 induction l with
 |nil=>intro n hl t h k hk;exact⟨t,h,fun _=>rfl,Ax.refl h,Nat.le_refl _,fun ρ a w w0 Q A R hq=>hq ρ a w (Ext.refl _ ρ) A R⟩
 |cons o l ih=>
  intro n hl t h k hk
  have e:∀ k',DD cf (Ac bars P nt ops.toList (Ad P) n (o::l)) t h k'=
   Lw ⟨BK nt ops.toList o.guard,C0 nt o.dst,bars n,Ad P o.op⟩ cf (DD cf (Ac bars P nt ops.toList (Ad P) (n+1) l)) t h k':=fun _=>rfl
  rw[e]at hk
  obtain⟨t1,h1,a1,a2,a3,a4⟩:=WB hcf hk
  rw[a1]at hk
  have hl':ops.toList.drop (n+1)=l:=by
   rw[<-List.drop_drop,hl];rfl
  obtain⟨t2,h2,b1,b2,b3,b4⟩:=ih (n+1) hl' t1 h1 k hk
  refine⟨t2,h2,fun k'=>by rw[e,a1,b1],Ax.trans a2 a3 b2,Nat.le_trans a3 b3,fun ρ a w w0 Q A R hq=>?_⟩
  have hn:ops[n]? =some o:=by
   have:ops.toList[n]? =some o:=by
    have:=congrArg (fun l=>l[0]?) hl
    simpa using this
   simpa using this
  rw[List.length_cons,List.range'_succ,wpOps_cons]
  unfold wpOp
  simp only[hn]
  have:=a4 ρ a w w0 (wpOps P ops Q (List.range' (n+1) l.length)) Q A R fun ρ' a' w' l1 A' R'=>b4 ρ' a' w' w0 Q A' R' fun ρ'' a'' w'' l2 A'' R''=>hq ρ'' a'' w'' (Ext.trans l1 (by rw[<-a2.1];exact l2)) A'' R''
  split
  ·rename_i hw;simp only[hw,if_true]at this;exact .inl this
  ·rename_i hw;simp only[hw]at this;exact this
def NB (a:Act) (r:ResultVar):Sem Value:=match r with
 |.tmp t=>pure (a.tmps.getD t undef)
 |.cell ad t=>do loadVar t (<-asAddr (a.tmps.getD ad undef))
theorem zA {P:Program} {nt:Nat} {r:ResultVar} {t:F} {h:H} {k:V->Bool} (hk:tJ (FO P r) t h k=true):
 ∃ v,(∀ k',tJ (FO P r) t h k'=k' v)/\∀ ρ a w w0,CS ρ nt t a->A8 ρ h w w0->∃ x,A1 ρ v x/\
  (NB a r).run P w=.ok x w:=by
 cases r with
 |tmp d=>
  have e:FO P (.tmp d)=match Nat.ble (Nat.succ d) 512 with|true=>.tmp (AT d)|false=>.no:=rfl
  rw[e]at hk⊢
  cases hb:Nat.ble (Nat.succ d) 512 with
  |false=>rw[hb]at hk;exact Bool.noConfusion hk
  |true=>exact⟨Bm (AT d) t,fun k'=>by show Bh _ _=_;rw[BG],fun ρ a w w0 A R=>⟨_,A.slot d (Nat.le_of_ble_eq_true hb),rfl⟩⟩
 |cell d el=>
  unfold FO at hk⊢
  simp only at hk⊢
  cases ht:As P el with
  |none=>rw[ht]at hk;exact Bool.noConfusion hk
  |some ty=>
   cases hb:Nat.ble (Nat.succ d) 512 with
   |false=>rw[ht,hb]at hk;exact Bool.noConfusion hk
   |true=>
    rw[ht,hb]at hk
    obtain⟨size,bytes,dd,z⟩:=ty
    obtain⟨i,i1,i2,i3,i4,i5⟩:=An ht
    simp only at hk⊢
    cases hd:EO dd with
    |false=>
     rw[hd]at hk
     simp only at hk⊢
     have hk':(vP (Bm (AT d) t) fun id g off fin=>DT h id g off fin k)=true:=hk
     obtain⟨id,g,off,fin,hv,hk'⟩:=Em hk'
     obtain⟨v,h1,h2⟩:=Ha hk'
     refine⟨v,fun k'=>?_,fun ρ a w w0 A R=>?_⟩
     ·show(vP (Bm (AT d) t) fun id g off fin=>DT h id g off fin k')=_
      rw[hv];exact h1 k'
     ·have hs:=A.slot d (Nat.le_of_ble_eq_true hb)
      rw[hv]at hs
      obtain⟨L,l1,l2,l3,l4⟩:=hs
      obtain⟨y,y1,y2⟩:=h2 ρ w w0 L R l1 l3 l4
      refine⟨y,y1,?_⟩
      simp only[NB,l2,asAddr,Sem.run_bind,Sem.run_pure',Result.andThen_ok,loadVar,FW i5,hd,Bool.false_eq_true,if_false,run_load,y2]
    |true=>
     rw[hd]at hk
     simp only at hk⊢
     have hk':(vP (Bm (AT d) t) fun id g off fin=>Bk h id g off fin size fun vs=>k (.a vs))=true:=hk
     obtain⟨id,g,off,fin,hv,hk'⟩:=Em hk'
     obtain⟨vs,h1,h2,h3⟩:=EI hk'
     refine⟨.a vs,fun k'=>?_,fun ρ a w w0 A R=>?_⟩
     ·show(vP (Bm (AT d) t) fun id g off fin=>Bk h id g off fin size fun vs=>k' (.a vs))=_
      rw[hv];exact h1 _
     ·have hs:=A.slot d (Nat.le_of_ble_eq_true hb)
      rw[hv]at hs
      obtain⟨L,l1,l2,l3,l4⟩:=hs
      obtain⟨xs,x1,x2,x3⟩:=h3 ρ w w0 L R l1 l3 l4
      refine⟨.agg xs.toArray,⟨_,rfl,by simpa using x1⟩,?_⟩
      simp only[NB,l2,asAddr,Sem.run_bind,Sem.run_pure',Result.andThen_ok,loadVar,FW i5,hd,if_true,Aw i1,i2,x2]
theorem Ql {P:Program} {nt:Nat}:∀ (rs:List ResultVar) (t:F) (h:H) (k:List V->Bool),FE (rs.map (FO P)) t h k=true->
 ∃ vs,(∀ k',FE (rs.map (FO P)) t h k'=k' vs)/\∀ ρ a w w0,CS ρ nt t a->A8 ρ h w w0->∃ xs,BJ ρ vs xs/\
  (rs.mapM (NB a):Sem (List Value)).run P w=.ok xs w
 |[],t,h,k,_=>⟨[],fun _=>rfl,fun ρ a w w0 A R=>⟨[],trivial,rfl⟩⟩
 |r::rs,t,h,k,hk=>by
  have e:∀ k',FE ((r::rs).map (FO P)) t h k'=tJ (FO P r) t h fun v=>FE (rs.map (FO P)) t h fun vs=>k' (v::vs):=fun _=>rfl
  rw[e]at hk
  obtain⟨v,h1,h2⟩:=zA (nt:=nt) hk
  rw[h1]at hk
  obtain⟨vs,h3,h4⟩:=Ql (nt:=nt) rs t h _ hk
  refine⟨v::vs,fun k'=>by rw[e,h1,h3],fun ρ a w w0 A R=>?_⟩
  obtain⟨x,x1,x2⟩:=h2 ρ a w w0 A R
  obtain⟨xs,y1,y2⟩:=h4 ρ a w w0 A R
  refine⟨x::xs,⟨x1,y1⟩,?_⟩
  rw[List.mapM_cons]
  simp only[Sem.run_bind,x2,Result.andThen_ok,y2]
  rfl
theorem HN {P:Program} {nt:Nat} {fn:Func} {t:F} {h:H} {k:List V->Bool} (hk:FE (fn.results.toList.map (FO P)) t h k=true):
 ∃ vs,(∀ k',FE (fn.results.toList.map (FO P)) t h k'=k' vs)/\∀ ρ a w w0,CS ρ nt t a->A8 ρ h w w0->∃ x,A1 ρ (one vs) x/\(results fn a.tmps).run P w=.ok x w:=by
 obtain⟨vs,h1,h2⟩:=Ql (nt:=nt) _ t h k hk
 refine⟨vs,h1,fun ρ a w w0 A R=>?_⟩
 obtain⟨xs,x1,x2⟩:=h2 ρ a w w0 A R
 have hrun:(results fn a.tmps).run P w=.ok (if h:xs.toArray.size=1 then xs.toArray[0]else .tuple xs.toArray) w:=by
  have e:results fn a.tmps=(do
   let vs<-fn.results.mapM (NB a)
   pure (if h:vs.size=1 then vs[0]else .tuple vs)):=by
   unfold results
   congr 2
  rw[e,Array.mapM_eq_mapM_toList]
  simp only[Sem.run_bind,Sem.run_map,x2,Result.andThen_ok]
  rfl
 refine⟨_,?_,hrun⟩
 match vs,xs,x1 with
 |[],[],_=>exact⟨#[],rfl,trivial⟩
 |[v],[x],x1=>exact x1.1
 |v::v'::vs,x::x'::xs,x1=>
  have:¬(x::x'::xs).toArray.size=1:=by simp
  rw[dif_neg this]
  exact⟨_,rfl,x1⟩
def xOf:X->Exit
 |.normal=>.normal
 |.exit id=>.exit id
 |.ret=>.ret
def IU (P:Program) (nt:Nat) (c:Code) (t:F) (h:H) (x:X) (t':F) (h':H):Prop:=
 ∀ ρ a w w0 (Q:Exit->Act->World->Prop),CS ρ nt t a->A8 ρ h w w0->(∀ ρ' a' w',Ext h.floor ρ ρ'->CS ρ' nt t' a'->A8 ρ' h' w' w0->Q (xOf x) a' w')->c.wp P Q a w
def JW (P:Program) (c:Code) (Q:Exit->Act->World->Prop) (a:Act) (w:World):Prop:=
 ∀ (b:Frame) (k:List Item) (cs:List Frame),∃ e a' w',Q e a' w'/\Arrives P (lone (b.at a (.code c::.inLoop c::k)) cs w) b k cs e a' w'
theorem Jy {P:Program} {c:Code} {Q:Exit->Act->World->Prop} {a:Act} {w:World} (h:JW P c Q a w):(Code.loop c).wp P Q a w:=by
 intro b k cs
 obtain⟨e,a',w',hq,harr⟩:=h b k cs
 exact⟨e,a',w',hq,.of_steps (.one step_loop) harr⟩
theorem C2 {P:Program} {c:Code} {Q:Exit->Act->World->Prop} {a:Act} {w:World} (h:c.wp P (Exit.then (JW P c Q) Q) a w):JW P c Q a w:=by
 intro b k cs
 obtain⟨e,a₁,w₁,hq,harr⟩:=h b (.inLoop c::k) cs
 cases e with
 |normal=>
  obtain⟨e₂,a₂,w₂,hq₂,harr₂⟩:=hq b k cs
  exact⟨e₂,a₂,w₂,hq₂,.of_steps (Steps.trans harr (.one step_inLoop)) harr₂⟩
 |exit id=>exact⟨_,a₁,w₁,hq,.pass (x:=.inLoop c) rfl (fun _ _=>.inl (by simp)) harr⟩
 |goto l=>exact⟨_,a₁,w₁,hq,.pass (x:=.inLoop c) rfl (fun _ _=>.inl (by simp)) harr⟩
 |ret=>exact⟨_,a₁,w₁,hq,.pass (x:=.inLoop c) rfl (fun _ _=>.inl (by simp)) harr⟩
 |panic ch=>exact⟨_,a₁,w₁,hq,.pass (x:=.inLoop c) rfl (fun _ _=>.inl (by simp)) harr⟩
 |outgrown=>exact⟨_,a₁,w₁,hq,.pass (x:=.inLoop c) rfl (fun _ _=>.inl (by simp)) harr⟩
def Kr (P:Program) (nt:Nat) (c:Code) (t:F) (h:H) (x:X) (t':F) (h':H):Prop:=
 ∀ ρ a w w0 (Q:Exit->Act->World->Prop),CS ρ nt t a->A8 ρ h w w0->(∀ ρ' a' w',Ext h.floor ρ ρ'->CS ρ' nt t' a'->A8 ρ' h' w' w0->Q (xOf x) a' w')->JW P c Q a w
def YL (tb:Nat->Bool) (P:Program) (n:Nat):Prop:=∀ nt (c:Code) t h k,exec tb (AY P) n (comp P nt c) t h k=true->
 ∃ x t' h',(∀ k',exec tb (AY P) n (comp P nt c) t h k'=k' x t' h')/\Ax h h'/\B.val h.next<=B.val h'.next/\IU P nt c t h x t' h'
def zO (tb:Nat->Bool) (P:Program) (n:Nat):Prop:=∀ nt (c:Code) t h k,exec tb (AY P) n (.loop (comp P nt c)) t h k=true->
 ∃ x t' h',(∀ k',exec tb (AY P) n (.loop (comp P nt c)) t h k'=k' x t' h')/\Ax h h'/\B.val h.next<=B.val h'.next/\Kr P nt c t h x t' h'
theorem A8.grow {ρ:BC} {h:H} {w w' w0:World} (R:A8 ρ h w w0) (hb:∀ b:Nat,b<w.heap.size->w'.heap[b]? =w.heap[b]?) (hs:w.heap.size<=w'.heap.size) (hz:w'.tape=w.tape) (ho:w'.os=w.os) (ht:w'.output=w.output):A8 ρ h w' w0:=by
 refine⟨fun id g L hL=>?_,R.ids,R.sep,R.Kw,fun b hb'=>(hb b (Nat.lt_of_lt_of_le hb' R.JN)).trans (R.H0 b hb'),R.up,hz.trans R.tp,ho.trans R.os,ht.trans R.out,Nat.le_trans R.JN hs,R.mp.of (BC.le_refl ρ) fun id L Ao h1 h2 _=>⟨h1,h2,by obtain⟨_,_,_,a3,_⟩:=R.loc _ _ _ h1;exact hb _ a3⟩,R.Mo.of fun id g L Ao h1 h2 _ _=>⟨h1,h2,by obtain⟨_,_,_,a3,_⟩:=R.loc _ _ _ h1;exact hb _ a3⟩⟩
 obtain⟨Ao,a1,a2,a3,a4,a5,a6,a7⟩:=R.loc _ _ _ hL
 refine⟨Ao,a1,a2,Nat.lt_of_lt_of_le a3 hs,a4,a5,a6,fun hm=>?_⟩
 obtain⟨c,el,b1,b2⟩:=a7 hm
 exact⟨c,el,b1.congr (hb _ a3),b2⟩
/--a function without parameters that returns true and leaves all that was there -/
def Sg (w w':World):Prop:=(∀ b:Nat,b<w.heap.size->w'.heap[b]? =w.heap[b]?)/\w.heap.size<=w'.heap.size/\w'.tape=w.tape/\w'.os=w.os/\w'.output=w.output
def Dh (P:Program) (f:FuncId):Prop:=∀ w,(callFunc f #[]).run P w=.ok (.enter f #[]) w/\Calls P f #[] w fun e w'=>e=.returned (.bool true)/\Sg w w'
theorem Fc:∀ (vs:List V) (n:Nat) (t:F) (k:F->Bool),n+vs.length<=512->∃ t',(∀ k',Dj vs n t k'=k' t')/\(∀ i v,vs[i]? =some v->Bm (AT (n+i)) t'=v)/\
 ∀ m,m<512->(m<n\/n+vs.length<=m)->Bm (AT m) t'=Bm (AT m) t
 |[],n,t,k,_=>⟨t,fun _=>rfl,fun i v h=>by simp at h,fun _ _ _=>rfl⟩
 |v::vs,n,t,k,hl=>by
  simp only[List.length_cons]at hl
  obtain⟨t1,h1,h2,h3⟩:=Fq (AT n) v t
  obtain⟨t2,g1,g2,g3⟩:=Fc vs (n+1) t1 k (by omega)
  have e:∀ k',Dj (v::vs) n t k'=Jj (AT n) v t fun t=>Dj vs (n+1) t k':=fun _=>rfl
  refine⟨t2,fun k'=>by rw[e,h1,g1],fun i u hi=>?_,fun m hm hmn=>?_⟩
  ·cases i with
   |zero=>
    simp at hi
    subst hi
    rw[Nat.add_zero,g3 n (by omega) (.inl (by omega)),h2]
   |succ i=>
    have:=g2 i u (by simpa using hi)
    rwa [show n+1+i=n+(i+1)by omega]at this
  ·rw[g3 m hm (by simp at hmn;omega),h3 _ (fun e=>by have:=Hr hm (by omega) e;simp at hmn;omega)]
theorem Kp (s:Sl):Bm s F.zero=.u:=by
 obtain⟨x,y,z⟩:=s
 cases x<;>cases y<;>cases z<;>rfl
theorem Ob {tb:Nat->Bool} {P:Program} (htb:∀ f,tb f=true->Dh P f) {n:Nat} (hE:YL tb P n):Fg P (GC tb (exec tb (AY P) n) (AY P)):=by
 intro f vs h k hk
 cases htf:tb f with
 |true=>
  have e:∀ k',GC tb (exec tb (AY P) n) (AY P) f vs h k'=Vv vs h k':=fun k'=>by unfold GC;rw[htf];rfl
  rw[e]at hk
  cases vs with
  |cons v vs=>exact Bool.noConfusion hk
  |nil=>
   refine⟨.b true,h,fun k'=>by rw[e];rfl,Ax.refl h,Nat.le_refl _,fun ρ w w0 args hargs R=>?_⟩
   have ha:args=[]:=by cases args<;>first|rfl|exact hargs.elim
   subst ha
   obtain⟨p1,p2⟩:=htb f htf w
   refine⟨p1,p2.mono fun e w' he=>?_⟩
   obtain⟨rfl,s1,s2,s3,s4,s5⟩:=he
   exact⟨_,rfl,ρ,Ext.refl _ ρ,rfl,R.grow s1 s2 s3 s4 s5⟩
 |false=>
 have e:∀ k',GC tb (exec tb (AY P) n) (AY P) f vs h k'=CF.rec (motive:=fun _=>Ex->List V->H->(V->H->Bool)->Bool) (fun nt body rs ex args h k=>At (Nat.ble args.length nt) fun _=>At (Nat.ble args.length 512) fun _=>Dj args 0 F.zero fun t=>ex body t h (Nh rs k)) (AY P f) (exec tb (AY P) n) vs h k':=fun k'=>by unfold GC;rw[htf];rfl
 rw[e]at hk
 cases hfn:P.funcs.toList[f]? with
 |none=>
  have hc:AY P f=⟨0,.bad,[]⟩:=by simp only[AY,hfn]
  rw[hc]at hk
  have hk':(At (Nat.ble vs.length 0) fun _=>At (Nat.ble vs.length 512) fun _=>Dj vs 0 F.zero fun t=>exec tb (AY P) n .bad t h (Nh [] k))=true:=hk
  obtain⟨hb,hk'⟩:=AW hk'
  obtain⟨_,hk'⟩:=AW hk'
  have hl:vs.length<=0:=Nat.le_of_ble_eq_true hb
  obtain⟨t',s1,_⟩:=Fc vs 0 F.zero (fun _=>true) (by omega)
  rw[s1]at hk'
  cases n<;>exact Bool.noConfusion hk'
 |some fn=>
  have hfn':P.funcs[f]? =some fn:=by simpa using hfn
  cases hbd:fn.body with
  |none=>
   have hc:AY P f=⟨0,.bad,[]⟩:=by simp only[AY,hfn,hbd]
   rw[hc]at hk
   have hk':(At (Nat.ble vs.length 0) fun _=>At (Nat.ble vs.length 512) fun _=>Dj vs 0 F.zero fun t=>exec tb (AY P) n .bad t h (Nh [] k))=true:=hk
   obtain⟨hb,hk'⟩:=AW hk'
   obtain⟨_,hk'⟩:=AW hk'
   have hl:vs.length<=0:=Nat.le_of_ble_eq_true hb
   obtain⟨t',s1,_⟩:=Fc vs 0 F.zero (fun _=>true) (by omega)
   rw[s1]at hk'
   cases n<;>exact Bool.noConfusion hk'
  |some body=>
   cases hnm:(fn.name== "runtime.NumGoroutine")with
   |true=>
    have hc:AY P f=⟨0,.bad,[]⟩:=by simp only[AY,hfn,hbd,hnm]
    rw[hc]at hk
    have hk':(At (Nat.ble vs.length 0) fun _=>At (Nat.ble vs.length 512) fun _=>Dj vs 0 F.zero fun t=>exec tb (AY P) n .bad t h (Nh [] k))=true:=hk
    obtain⟨hb,hk'⟩:=AW hk'
    obtain⟨_,hk'⟩:=AW hk'
    have hl:vs.length<=0:=Nat.le_of_ble_eq_true hb
    obtain⟨t',s1,_⟩:=Fc vs 0 F.zero (fun _=>true) (by omega)
    rw[s1]at hk'
    cases n<;>exact Bool.noConfusion hk'
   |false=>
    have hc:AY P f=⟨fn.ntmps,comp P fn.ntmps body,fn.results.toList.map (FO P)⟩:=by simp only[AY,hfn,hbd,hnm]
    have e':∀ k',GC tb (exec tb (AY P) n) (AY P) f vs h k'=(At (Nat.ble vs.length fn.ntmps) fun _=>At (Nat.ble vs.length 512) fun _=>Dj vs 0 F.zero fun t=>exec tb (AY P) n (comp P fn.ntmps body) t h (Nh (fn.results.toList.map (FO P)) k')):=by
     intro k';rw[e,hc]
    rw[<-e,e']at hk
    obtain⟨hb1,hk⟩:=AW hk
    obtain⟨hb2,hk⟩:=AW hk
    have hl1:vs.length<=fn.ntmps:=Nat.le_of_ble_eq_true hb1
    have hl2:vs.length<=512:=Nat.le_of_ble_eq_true hb2
    obtain⟨t0,s1,s2,s3⟩:=Fc vs 0 F.zero (fun _=>true) (by omega)
    rw[s1]at hk
    obtain⟨x,t',h',x1,x2,x3,x4⟩:=hE _ _ _ _ _ hk
    rw[x1]at hk
    have hret:∃ vs',(∀ k',Nh (fn.results.toList.map (FO P)) k' x t' h'=k' (one vs') h')/\(x=.normal\/x=.ret)/\
     ∀ ρ a w w0,CS ρ fn.ntmps t' a->A8 ρ h' w w0->∃ y,A1 ρ (one vs') y/\(results fn a.tmps).run P w=.ok y w:=by
     cases x with
     |exit id=>exact Bool.noConfusion hk
     |normal=>
      have hk':(FE (fn.results.toList.map (FO P)) t' h' fun vs=>Bh (one vs) fun v=>k v h')=true:=hk
      obtain⟨vs',r1,r2⟩:=HN (nt:=fn.ntmps) hk'
      exact⟨vs',fun k'=>by show(FE (fn.results.toList.map (FO P)) t' h' fun vs=>Bh (one vs) fun v=>k' v h')=_;rw[r1,BG],.inl rfl,r2⟩
     |ret=>
      have hk':(FE (fn.results.toList.map (FO P)) t' h' fun vs=>Bh (one vs) fun v=>k v h')=true:=hk
      obtain⟨vs',r1,r2⟩:=HN (nt:=fn.ntmps) hk'
      exact⟨vs',fun k'=>by show(FE (fn.results.toList.map (FO P)) t' h' fun vs=>Bh (one vs) fun v=>k' v h')=_;rw[r1,BG],.inr rfl,r2⟩
    obtain⟨vs',r1,r2,r3⟩:=hret
    refine⟨one vs',h',fun k'=>by rw[e',hb1,hb2];simp only[AH];rw[s1,x1,r1],x2,x3,fun ρ w w0 args hargs R=>?_⟩
    have hal:=hargs.length
    constructor
    ·have hp:(program:Sem Program).run P w=.ok P w:=rfl
     unfold callFunc
     simp only[Sem.run_bind,hp,Result.andThen_ok,hfn',hnm,Bool.false_eq_true,if_false,hbd,Option.isNone_some]
     rfl
    ·refine calls_of_wp hfn' hbd ?_
     have A0:CS ρ fn.ntmps t0 {tmps:=args.toArray++Array.replicate (fn.ntmps-args.toArray.size) undef,defers:=[]}:=by
      refine⟨rfl,by simp;omega,fun m hm=>?_⟩
      by_cases hmv:m<vs.length
      ·have hv:vs[m]? =some (vs[m]'hmv):=by simp
       obtain⟨y,y1,y2⟩:=hargs.get hv
       have:=s2 m _ hv
       rw[Nat.zero_add]at this
       rw[this]
       have hy:(args.toArray++Array.replicate (fn.ntmps-args.toArray.size) undef).getD m undef=y:=by
        have hma:m<args.length:=by omega
        rw[Array.getD_eq_getD_getElem?,Array.getElem?_append_left (by simpa using hma)]
        simp[y1]
       rw[hy];exact y2
      ·rw[s3 m hm (.inr (by omega)),Kp];trivial
     refine x4 ρ _ w w0 _ A0 R fun ρ' a' w' hle A' R'=>?_
     obtain⟨y,y1,y2⟩:=r3 ρ' a' w' w0 A' R'
     rcases r2 with rfl|rfl
     ·exact⟨A'.defers,y,y2,y,rfl,ρ',hle,y1,R'⟩
     ·exact⟨A'.defers,y,y2,y,rfl,ρ',hle,y1,R'⟩
end Go.Ev
namespace Go.Ev
open Go
inductive Reach (ops:List Oper):Nat->Nat->Prop
 |one {j:Nat} {o:Oper} {e:Edge}:ops[j]? =some o->e∈o.after.toList->Region.binds .any e=true->Reach ops j e.on
 |more {j:Nat} {o:Oper} {e:Edge} {i:Nat}:ops[j]? =some o->e∈o.after.toList->Region.binds .any e=true->Reach ops e.on i->Reach ops j i
theorem KT (done:List Nat):∀ (l:List Edge) (acc i:Nat),Nat.testBit (NN done l acc) i=true->
 Nat.testBit acc i=true\/∃ e∈l,Region.binds .any e=true/\(i=e.on\/Nat.testBit ((done[e.on]?).getD 0) i=true)
 |[],acc,i,h=>.inl h
 |e::r,acc,i,h=>by
  unfold NN at h
  cases hb:Region.binds .any e with
  |false=>
   rw[hb]at h
   rcases KT done r acc i h with h|⟨e',h1,h2,h3⟩
   ·exact .inl h
   ·exact .inr ⟨e',by simp[h1],h2,h3⟩
  |true=>
   rw[hb]at h
   rcases KT done r _ i h with h|⟨e',h1,h2,h3⟩
   ·have h':Nat.testBit ((acc|||2 ^ e.on)|||(done[e.on]?).getD 0) i=true:=h
    rw[Nat.testBit_or,Nat.testBit_or,Nat.testBit_two_pow]at h'
    simp only[Bool.or_eq_true,decide_eq_true_eq]at h'
    rcases h' with(h'|h')|h'
    ·exact .inl h'
    ·exact .inr ⟨e,by simp,hb,.inl h'.symm⟩
    ·exact .inr ⟨e,by simp,hb,.inr h'⟩
   ·exact .inr ⟨e',by simp[h1],h2,h3⟩
theorem HW (ops:List Oper):∀ (l:List Oper) (done:List Nat),ops.drop done.length=l->(∀ j i,Nat.testBit ((done[j]?).getD 0) i=true->Reach ops j i)->
 ∀ j i,Nat.testBit (((CI l done)[j]?).getD 0) i=true->Reach ops j i
 |[],done,_,h=>h
 |o::l,done,hl,h=>by
  unfold CI
  refine HW ops l _ ?_ ?_
  ·rw[List.length_append,<-List.drop_drop,hl];rfl
  ·intro j i hj
   have ho:ops[done.length]? =some o:=by
    have:=congrArg (fun l=>l[0]?) hl
    simpa using this
   by_cases hjl:j<done.length
   ·rw[List.getElem?_append_left hjl]at hj
    exact h j i hj
   ·by_cases hje:j=done.length
    ·subst hje
     simp at hj
     rcases KT done _ _ _ hj with h0|⟨e,h1,h2,h3⟩
     ·simp at h0
     ·rcases h3 with rfl|h3
      ·exact .one ho h1 h2
      ·exact .more ho h1 h2 (h _ _ h3)
    ·rw[List.getElem?_eq_none (by simp;omega)]at hj
     simp at hj
theorem Er:∀ (l:List Oper) (n:Nat),EV n l=true->∀ (k:Nat) o,l[k]? =some o->∀ e∈o.after.toList,Region.binds .any e=true->e.on<n+k
 |[],n,h,k,o,hk,e,he,hb=>by simp at hk
 |o'::l,n,h,k,o,hk,e,he,hb=>by
  unfold EV at h
  simp only[Bool.and_eq_true,List.all_eq_true]at h
  cases k with
  |zero=>
   simp at hk
   subst hk
   have:=h.1 e he
   simp only[hb,Bool.not_true,Bool.false_or]at this
   exact Nat.le_of_ble_eq_true this
  |succ k=>
   have:=Er l (n+1) h.2 k o (by simpa using hk) e he hb
   omega
theorem Reach.lt {ops:List Oper} (hu:EV 0 ops=true) {j i:Nat} (h:Reach ops j i):i<j:=by
 induction h with
 |one h1 h2 h3=>have:=Er ops 0 hu _ _ h1 _ h2 h3;omega
 |more h1 h2 h3 h4 ih=>have:=Er ops 0 hu _ _ h1 _ h2 h3;omega
def Cd (listed:Array Bool) (i:Nat):Prop:=listed.getD i false=true
def Ez (ops:List Oper) (listed:Array Bool):Prop:=∀ (j:Nat) o,ops[j]? =some o->Cd listed j->∀ e∈o.after.toList,Region.binds .any e=true->Cd listed e.on
theorem Reach.Tc {ops:List Oper} {listed:Array Bool} (hc:Ez ops listed) {j i:Nat} (h:Reach ops j i):(∀ o,ops[j]? =some o->∀ e∈o.after.toList,Region.binds .any e=true->Cd listed e.on)->Cd listed i:=by
 induction h with
 |one h1 h2 h3=>intro hr;exact hr _ h1 _ h2 h3
 |more h1 h2 h3 h4 ih=>intro hr;exact ih fun o ho e he hb=>hc _ _ ho (hr _ h1 _ h2 h3) e he hb
theorem DU {a b:List Nat} (h:J4 a b=true) {x:Nat} (hx:x∈a) (hy:x∈b):False:=by
 unfold J4 at h
 rw[List.all_eq_true]at h
 have:=h x hx
 rw[List.all_eq_true]at this
 have:=this x hy
 simp at this
theorem Lk {ops:List Oper} {i:Nat} {o:Oper} (h:ops[i]? =some o):(o,i)∈ops.zipIdx:=by
 rw[List.mem_zipIdx_iff_getElem?];exact h
theorem JM {ops:List Oper} (h:Bi ops=true) {i j:Nat} {oi oj:Oper} (hi:ops[i]? =some oi) (hj:ops[j]? =some oj) (hij:i<j):Reach ops j i\/Gy ops oi oj=true:=by
 simp only[Bi,Bool.and_eq_true,List.all_eq_true]at h
 have hp:=h.2.2 (oi,i) (Lk hi) (oj,j) (Lk hj)
 unfold TS at hp
 simp only[Bool.or_eq_true]at hp
 rcases hp with hp|hp|hp
 ·have:=Nat.le_of_ble_eq_true hp;omega
 ·exact .inl (HW ops ops [] rfl (fun j i h=>by simp at h) j i hp)
 ·exact .inr hp
theorem Jp {P:Program} {ops:List Oper} {i j:Nat} {oj:Oper} (hb:CA P ops (CI ops []) i=true) (hj:ops[j]? =some oj) (hs:still P oj.op=false) (hij:i≠j):Reach ops j i\/Reach ops i j:=by
 unfold CA at hb
 cases hi:ops[i]? with
 |none=>rw[hi]at hb;cases hb
 |some oi=>
  rw[hi]at hb
  simp only[SZ,Bool.and_eq_true,List.all_eq_true]at hb
  have:=hb.2 (oj,j) (Lk hj)
  simp only[hs,Bool.false_or,Bool.or_eq_true]at this
  rcases this with h|h|h
  ·exact absurd (Nat.eq_of_beq_eq_true h) hij
  ·exact .inl (HW ops ops [] rfl (fun j i h=>by simp at h) j i h)
  ·exact .inr (HW ops ops [] rfl (fun j i h=>by simp at h) i j h)
theorem KM {P:Program} {ops:List Oper} {i:Nat} {oi:Oper} (hb:CA P ops (CI ops []) i=true) (hi:ops[i]? =some oi):still P oi.op=false:=by
 unfold CA at hb
 rw[hi]at hb
 simp only[SZ,Bool.and_eq_true]at hb
 simpa using hb.1
def BC.below (ρ:BC) (n:B):BC:=fun id g=>if B.val id<B.val n then ρ id g else none
theorem BC.C5 {ρ:BC} {n id:B} {g:Nat} {L:Loc} (h:ρ.below n id g=some L):ρ id g=some L/\B.val id<B.val n:=by
 unfold BC.below at h
 split at h
 ·exact⟨h,by assumption⟩
 ·cases h
theorem BC.Cl {ρ:BC} {n id:B} {g:Nat} {L:Loc} (h:ρ id g=some L) (hn:B.val id<B.val n):ρ.below n id g=some L:=by
 unfold BC.below;rw[if_pos hn];exact h
theorem A8.TO {ρ:BC} {h h':H} {w w0:World} (R:A8 ρ h w w0) (hg:∀ id g L,ρ id g=some L->h'.heap.get id=h.heap.get id) (hn:B.val h.next<=B.val h'.next) (hf:h'.floor=h.floor):A8 ρ h' w w0:=by
 refine⟨fun id g L hL=>?_,fun id g L hL=>Nat.lt_of_lt_of_le (R.ids _ _ _ hL) hn,R.sep,by rw[hf];exact Nat.le_trans R.Kw hn,R.H0,fun id g L hL hfl=>R.up _ _ _ hL (by rw[<-hf];exact hfl),R.tp,R.os,R.out,R.JN,R.mp.of (BC.le_refl ρ) fun id L Ao h1 h2 _=>⟨h1,(hg _ _ _ h1).symm.trans h2,rfl⟩,R.Mo.of fun id g L Ao h1 h2 _ _=>⟨h1,(hg _ _ _ h1).symm.trans h2,rfl⟩⟩
 obtain⟨Ao,a1,a2⟩:=R.loc _ _ _ hL
 exact⟨Ao,(hg _ _ _ hL).trans a1,a2⟩
theorem A8.congr {ρ ρ':BC} {h:H} {w w0:World} (R:A8 ρ h w w0) (he:∀ id g,ρ' id g=ρ id g):A8 ρ' h w w0:=by
 have:ρ'=ρ:=by funext id g;exact he id g
 rw[this];exact R
theorem A8.Tq {ρ:BC} {h:H} {w w0:World} (R:A8 ρ h w w0):A8 ρ (Av h) w w:=by
 obtain⟨n,f,hp⟩:=h
 exact⟨R.loc,R.ids,R.sep,Nat.le_refl _,fun _ _=>rfl,fun id g L hL hf=>absurd (R.ids _ _ _ hL) (Nat.not_lt.2 hf),rfl,rfl,rfl,Nat.le_refl _,R.mp,R.Mo⟩
/--the H0 blocks,and new ones beside them -/
theorem A8.merge {ρ1 ρ2 ρ3:BC} {h h2:H} {w w' w0:World} (A:A8 ρ1 h w w0) (hB:A8 ρ2 h2 w' w) (h13:ρ1.le ρ3) (h23:ρ2.le ρ3)
 (h3:∀ id g L,ρ3 id g=some L->ρ1 id g=some L\/(ρ2 id g=some L/\B.val h2.floor<=B.val id/\B.val id<B.val h.next/\h.heap.get id=h2.heap.get id)):A8 ρ3 h w' w0:=by
 have A':=A.grow (w':=w') hB.H0 hB.JN hB.tp hB.os hB.out
 refine⟨fun id g L hL=>?_,fun id g L hL=>?_,fun id g L id' g' L' hL hL' hbb=>?_,A.Kw,A'.H0,fun id g L hL hf=>?_,A'.tp,A'.os,A'.out,A'.JN,fun id L Ao h1 hb2 h3'=>?_,fun id g L Ao ob h1 hb2 hg h3' h5'=>?_⟩
 ·rcases h3 _ _ _ hL with h1|⟨h1,_,_,hh⟩
  ·obtain⟨Ao,a1,a2,a3,a4,a5,a6,a7⟩:=A'.loc _ _ _ h1
   refine⟨Ao,a1,a2,a3,a4,a5,a6,fun hm=>?_⟩
   obtain⟨c,el,b1,b2,b3,b4⟩:=a7 hm
   refine⟨c,el,b1,b2,b3,fun i i1 i2=>?_⟩
   obtain⟨v,x,d1,d2,d3⟩:=b4 i i1 i2
   exact⟨v,x,d1,d2,A1.up h13 _ _ d3⟩
  ·obtain⟨Ao,a1,a2,a3,a4,a5,a6,a7⟩:=hB.loc _ _ _ h1
   refine⟨Ao,hh.trans a1,a2,a3,a4,a5,a6,fun hm=>?_⟩
   obtain⟨c,el,b1,b2,b3,b4⟩:=a7 hm
   refine⟨c,el,b1,b2,b3,fun i i1 i2=>?_⟩
   obtain⟨v,x,d1,d2,d3⟩:=b4 i i1 i2
   exact⟨v,x,d1,d2,A1.up h23 _ _ d3⟩
 ·rcases h3 _ _ _ hL with h1|⟨h1,_,h4,_⟩
  ·exact A.ids _ _ _ h1
  ·exact h4
 ·rcases h3 _ _ _ hL with h1|⟨h1,f1,_,_⟩<;>rcases h3 _ _ _ hL' with h2'|⟨h2',f2,_,_⟩
  ·exact A.sep _ _ _ _ _ _ h1 h2' hbb
  ·obtain⟨_,_,_,a3,_⟩:=A.loc _ _ _ h1
   have:=hB.up _ _ _ h2' f2
   omega
  ·obtain⟨_,_,_,a3,_⟩:=A.loc _ _ _ h2'
   have:=hB.up _ _ _ h1 f1
   omega
  ·exact hB.sep _ _ _ _ _ _ h1 h2' hbb
 ·rcases h3 _ _ _ hL with h1|⟨h1,f1,_,_⟩
  ·exact A.up _ _ _ h1 hf
  ·exact Nat.le_trans A.JN (hB.up _ _ _ h1 f1)
 ·rcases h3 _ _ _ h1 with h4|⟨h4,_,_,hh⟩
  ·obtain⟨es,clock,q1,q2⟩:=A'.mp id L Ao h4 hb2 h3'
   exact⟨es,clock,q1,q2.up h13⟩
  ·obtain⟨es,clock,q1,q2⟩:=hB.mp id L Ao h4 (hh.symm.trans hb2) h3'
   exact⟨es,clock,q1,q2.up h23⟩
 ·rcases h3 _ _ _ h1 with h4|⟨h4,_,_,hh⟩
  ·exact A'.Mo id g L Ao ob h4 hb2 hg h3' h5'
  ·exact hB.Mo id g L Ao ob h4 (hh.symm.trans hb2) hg h3' h5'
def LO (nt:Nat) (ops:List Oper) (o:Oper) (ρ:BC) (t:F) (a:Act):Prop:=a.tmps.size=nt/\∀ q∈looks ops o,q<512->A1 ρ (Bm (AT q) t) (a.tmps.getD q undef)
theorem Gg {nt:Nat} {ops:List Oper} {o:Oper} {ρ:BC} {t:F} {a:Act} (h:LO nt ops o ρ t a):FG ρ t a o.op.operands.toList:=by
 intro x hx
 cases x with
 |tmp q=>
  show A1 ρ (oV (match Nat.ble (q+1) 512 with|true=>.t (AT q)|false=>.c .u) t) _
  cases hn:Nat.ble (q+1) 512 with
  |true=>exact h.2 q (by simp only[looks,List.mem_append,List.mem_flatMap];exact .inr ⟨_,hx,by simp[slotsOf]⟩) (Nat.le_of_ble_eq_true hn)
  |false=>trivial
 |const v=>exact DX ρ v
 |global g=>trivial
 |func f=>exact⟨#[],rfl,trivial⟩
structure BI (P:Program) (nt:Nat) (ops:Array Oper) (i:Nat) (o:Oper) (HA:Bool) (t t':F) (h h':H):Prop where
 dst:∀ q,o.dst=some q->q<nt/\q<512
 rest:∀ q,q<512->o.dst≠some q->Bm (AT q) t'=Bm (AT q) t
 calm:still P o.op=true->h'=h
 ex:∃ v h2,(∀ q,o.dst=some q->Bm (AT q) t'=v)/\Ax (if HA then h else Av h) h2/\B.val h.next<=B.val h2.next/\h'=(if HA then h2 else Bx h h2)/\
  (∀ ρ a w wb (K:Act->World->Prop) (Q:Exit->Act->World->Prop),LO nt ops.toList o ρ t a->A8 ρ (if HA then h else Av h) w wb->
    (∀ ρ' x w',Ext (if HA then h else Av h).floor ρ ρ'->A1 ρ' v x->A8 ρ' h2 w' wb->K (a.put o.dst x) w')->wpOp P ops Q i K a w)/\
  (still P o.op=true->∀ ρ a w (K:Act->World->Prop) (Q:Exit->Act->World->Prop),LO nt ops.toList o ρ t a->(∀ x,A1 ρ v x->K (a.put o.dst x) w)->wpOp P ops Q i K a w)
theorem Fe {nt:Nat} {dst:Option Tmp} {v:V} {t:F} {k:F->Bool} (hk:Dd (C0 nt dst) v t k=true):
 ∃ t',(∀ k',Dd (C0 nt dst) v t k'=k' t')/\(∀ q,dst=some q->q<nt/\q<512)/\(∀ q,dst=some q->Bm (AT q) t'=v)/\∀ q,q<512->dst≠some q->Bm (AT q) t'=Bm (AT q) t:=by
 cases dst with
 |none=>exact⟨t,fun _=>rfl,(fun q h=>by cases h),(fun q h=>by cases h),fun _ _ _=>rfl⟩
 |some d=>
  have e:C0 nt (some d)=match Nat.ble (Nat.succ d) nt&&Nat.ble (Nat.succ d) 512 with|true=>.some (AT d)|false=>.bad:=rfl
  rw[e]at hk⊢
  cases hb:(Nat.ble (Nat.succ d) nt&&Nat.ble (Nat.succ d) 512)with
  |false=>rw[hb]at hk;exact Bool.noConfusion hk
  |true=>
   obtain⟨t',h1,h2,h3⟩:=Fq (AT d) v t
   simp only[Bool.and_eq_true]at hb
   have hn:d<nt:=Nat.le_of_ble_eq_true hb.1
   have h5:d<512:=Nat.le_of_ble_eq_true hb.2
   refine⟨t',fun k'=>h1 k',(fun q h=>by cases h;exact⟨hn,h5⟩),(fun q h=>by cases h;exact h2),fun q hq hne=>h3 _ fun e=>hne (by rw[Hr hq h5 e])⟩
theorem CX {P:Program} {ops:Array Oper} {Q:Exit->Act->World->Prop} {i:Nat} {o:Oper} {K:Act->World->Prop} {a:Act} {w:World} (hi:ops[i]? =some o)
 (h:if Region.wanted o (yielded ops a.tmps)then o.wp P a w K Q else K (a.put o.dst undef) w):wpOp P ops Q i K a w:=by
 unfold wpOp
 simp only[hi]
 split
 ·rename_i hw;simp only[hw,if_true]at h;exact .inl h
 ·rename_i hw;simp only[hw]at h;exact h
theorem Dp (h:H):(Av h).next=h.next:=by cases h;rfl
theorem DI (h:H):(Av h).floor=h.next:=by cases h;rfl
theorem Lz (h:H):(Av h).heap=h.heap:=by cases h;rfl
theorem Fx (h h2:H):Bx h h2=⟨h2.next,h.floor,h2.heap⟩:=by cases h;cases h2;rfl
theorem F7 (h:H):Bx h (Av h)=h:=by cases h;rfl
theorem JT {P:Program} {cf:Bn} (hcf:Fg P cf) {nt:Nat} {ops:Array Oper} {i:Nat} {o:Oper} (hi:ops[i]? =some o) {HA:Bool} {t:F} {h:H} {ih:F->H->(F->H->Bool)->Bool} {k:F->H->Bool}
 (hk:Tb ⟨BK nt ops.toList o.guard,C0 nt o.dst,HA,Ad P o.op⟩ cf ih t h k=true):
 ∃ t' h',(∀ k',Tb ⟨BK nt ops.toList o.guard,C0 nt o.dst,HA,Ad P o.op⟩ cf ih t h k'=ih t' h' k')/\BI P nt ops i o HA t t' h h':=by
 have e:∀ k',Tb ⟨BK nt ops.toList o.guard,C0 nt o.dst,HA,Ad P o.op⟩ cf ih t h k'=CZ (BK nt ops.toList o.guard) t fun b=>IS b HA (Ad P o.op) (C0 nt o.dst) cf ih t h k':=fun _=>rfl
 rw[e]at hk
 obtain⟨b,g1,g2⟩:=Hi hk
 rw[g1]at hk
 have hw:∀ ρ a,LO nt ops.toList o ρ t a->Region.wanted o (yielded ops a.tmps)=b:=fun ρ a hl=>
  g2 ρ a hl.1 fun d hd h5=>hl.2 d (by simp only[looks,List.mem_append];exact .inl hd) h5
 cases b with
 |false=>
  have e2:∀ k',IS false HA (Ad P o.op) (C0 nt o.dst) cf ih t h k'=Dd (C0 nt o.dst) (.tu []) t fun t=>ih t h k':=by intro k';cases HA<;>rfl
  rw[e2]at hk
  obtain⟨t',p1,p2,p3,p4⟩:=Fe hk
  refine⟨t',h,fun k'=>by rw[e,g1,e2,p1],p2,p4,fun _=>rfl,.tu [],if HA then h else Av h,p3,Ax.refl _,by cases HA<;>simp[Dp],by cases HA<;>simp[F7],fun ρ a w wb K Q hl R hK=>?_,fun _ ρ a w K Q hl hK=>?_⟩
  ·refine CX hi ?_
   rw[hw ρ a hl]
   simp only[Bool.false_eq_true,if_false]
   exact hK ρ undef w (Ext.refl _ ρ) ⟨#[],rfl,trivial⟩ R
  ·refine CX hi ?_
   rw[hw ρ a hl]
   simp only[Bool.false_eq_true,if_false]
   exact hK undef ⟨#[],rfl,trivial⟩
 |true=>
  cases HA with
  |true=>
   have e2:∀ k',IS true true (Ad P o.op) (C0 nt o.dst) cf ih t h k'=runK (Ad P o.op) cf t h (fun v h=>Dd (C0 nt o.dst) v t fun t=>ih t h k'):=fun _=>rfl
   rw[e2]at hk
   obtain⟨v,h',r1,r2,r3,r4,r5⟩:=D7 P o cf hcf t h _ hk
   rw[r1]at hk
   obtain⟨t',p1,p2,p3,p4⟩:=Fe hk
   refine⟨t',h',fun k'=>by rw[e,g1,e2,r1,p1],p2,p4,fun hs=>(r5 hs).1,v,h',p3,r2,r3,rfl,fun ρ a w wb K Q hl R hK=>?_,fun hs ρ a w K Q hl hK=>?_⟩
   ·refine CX hi ?_
    rw[hw ρ a hl]
    simp only[if_true]
    obtain⟨nx,w1,x1,x2⟩:=r4 ρ a w wb (Gg hl) R
    unfold Oper.wp
    rw[x1]
    exact x2.upon fun x w' ⟨ρ',y1,y2,y3⟩=>hK ρ' x w' y1 y2 y3
   ·refine CX hi ?_
    rw[hw ρ a hl]
    simp only[if_true]
    obtain⟨x,x1,x2⟩:=(r5 hs).2 ρ a w (Gg hl)
    unfold Oper.wp
    rw[x1]
    exact hK x x2
  |false=>
   have e2:∀ k',IS true false (Ad P o.op) (C0 nt o.dst) cf ih t h k'=runK (Ad P o.op) cf t (Av h) (fun v h2=>Dd (C0 nt o.dst) v t fun t=>ih t (Bx h h2) k'):=fun _=>rfl
   rw[e2]at hk
   obtain⟨v,h2,r1,r2,r3,r4,r5⟩:=D7 P o cf hcf t (Av h) _ hk
   rw[r1]at hk
   obtain⟨t',p1,p2,p3,p4⟩:=Fe hk
   refine⟨t',Bx h h2,fun k'=>by rw[e,g1,e2,r1,p1],p2,p4,fun hs=>by rw[(r5 hs).1,F7],v,h2,p3,r2,by rw[<-Dp];exact r3,rfl,fun ρ a w wb K Q hl R hK=>?_,fun hs ρ a w K Q hl hK=>?_⟩
   ·refine CX hi ?_
    rw[hw ρ a hl]
    simp only[if_true]
    obtain⟨nx,w1,x1,x2⟩:=r4 ρ a w wb (Gg hl) R
    unfold Oper.wp
    rw[x1]
    exact x2.upon fun x w' ⟨ρ',y1,y2,y3⟩=>hK ρ' x w' y1 y2 y3
   ·refine CX hi ?_
    rw[hw ρ a hl]
    simp only[if_true]
    obtain⟨x,x1,x2⟩:=(r5 hs).2 ρ a w (Gg hl)
    unfold Oper.wp
    rw[x1]
    exact hK x x2
theorem RK {P:Program} {cf:Bn} (hcf:Fg P cf) {nt:Nat} {ops:Array Oper} (bars:Nat->Bool):∀ (l:List Oper) (n:Nat),ops.toList.drop n=l->∀ (t:F) (h:H) (k:F->H->Bool),
 DE cf (Ac bars P nt ops.toList (Ad P) n l) t h k=true->
 ∃ (Ts:Nat->F) (Hs:Nat->H),Ts n=t/\Hs n=h/\(∀ k',DE cf (Ac bars P nt ops.toList (Ad P) n l) t h k'=k' (Ts (n+l.length)) (Hs (n+l.length)))/\
  ∀ (i:Nat) o,n<=i->ops[i]? =some o->BI P nt ops i o (bars i) (Ts i) (Ts (i+1)) (Hs i) (Hs (i+1)):=by
 intro l
 induction l with
 |nil=>
  intro n hl t h k hk
  refine⟨fun _=>t,fun _=>h,rfl,rfl,fun _=>rfl,fun i o hni hi=>?_⟩
  have:ops.toList[i]? =none:=by
   rw[List.getElem?_eq_none]
   have:=congrArg List.length hl
   simp at this
   simp;omega
  rw[show ops[i]? =ops.toList[i]? by simp,this]at hi
  cases hi
 |cons o l ih=>
  intro n hl t h k hk
  have hn:ops[n]? =some o:=by
   have:ops.toList[n]? =some o:=by
    have:=congrArg (fun l=>l[0]?) hl
    simpa using this
   simpa using this
  have e:∀ k',DE cf (Ac bars P nt ops.toList (Ad P) n (o::l)) t h k'=
   Tb ⟨BK nt ops.toList o.guard,C0 nt o.dst,bars n,Ad P o.op⟩ cf (DE cf (Ac bars P nt ops.toList (Ad P) (n+1) l)) t h k':=fun _=>rfl
  rw[e]at hk
  obtain⟨t1,h1,a1,a2⟩:=JT hcf hn hk
  rw[a1]at hk
  have hl':ops.toList.drop (n+1)=l:=by rw[<-List.drop_drop,hl];rfl
  obtain⟨Ts,Hs,b1,b2,b3,b4⟩:=ih (n+1) hl' t1 h1 k hk
  refine⟨fun i=>if i=n then t else Ts i,fun i=>if i=n then h else Hs i,by simp,by simp,fun k'=>?_,fun i oi hni hi=>?_⟩
  ·rw[e,a1,b3]
   have e1:n+(o::l).length=n+1+l.length:=by simp;omega
   rw[e1]
   simp only[show ¬n+1+l.length=n by omega,if_false]
  ·by_cases hin:i=n
   ·subst hin
    rw[hn]at hi
    cases hi
    simp only[if_true,show ¬i+1=i by omega,if_false,b1,b2]
    exact a2
   ·simp only[hin,if_false,show ¬i+1=n by omega]
    exact b4 i oi (by omega) hi
section
variable {P:Program} {nt:Nat} {ops:Array Oper} {Ts:Nat->F} {Hs:Nat->H}
theorem BC.RW (ρ:BC) (n:B):(ρ.below n).le ρ:=fun _ _ _ h=>(BC.C5 h).1
theorem BC.HE {ρ ρ':BC} (h:ρ.le ρ') {m n:B} (hn:B.val m<=B.val n):(ρ.below m).le (ρ'.below n):=
 fun _ _ _ hL=>BC.Cl (h _ _ _ (BC.C5 hL).1) (Nat.lt_of_lt_of_le (BC.C5 hL).2 hn)
def BC.or (ρ ρ':BC):BC:=fun id g=>(ρ id g).or (ρ' id g)
structure Inv (P:Program) (nt:Nat) (ops:Array Oper) (Ts:Nat->F) (Hs:Nat->H) (ρ0:BC) (w0:World) (listed:Array Bool) (a:Act) (w:World) (ρ:BC) (s M:Nat):Prop where
 size:a.tmps.size=nt
 defers:a.defers=[]
 ext:Ext (Hs 0).floor ρ0 ρ
 Dj:∀ q,q<512->∃ m,m<=ops.size/\(m=0\/∃ j o,m=j+1/\ops[j]? =some o/\o.dst=some q)/\(∀ (j:Nat) o,ops[j]? =some o->o.dst=some q->(j<m↔Cd listed j))/\A1 (ρ.below (Hs m).next) (Bm (AT q) (Ts m)) (a.tmps.getD q undef)
 sM:s<=M
 MN:M<=ops.size
 lo:∀ (j:Nat) o,ops[j]? =some o->still P o.op=false->j<s->Cd listed j
 hi:∀ (j:Nat) o,ops[j]? =some o->still P o.op=false->M<=j->¬Cd listed j
 Od:∀ j,s<=j->j<M->CA P ops.toList (CI ops.toList []) j=false
 rR:M=ops.size\/CA P ops.toList (CI ops.toList []) M=true
 z5:∀ id g L,ρ id g=some L->B.val id<B.val (Hs M).next
 eW:∀ id g L,ρ id g=some L->∀ (j:Nat) o,ops[j]? =some o->¬Cd listed j->¬(B.val (Hs j).next<=B.val id/\B.val id<B.val (Hs (j+1)).next)
 heap:∀ m,s<=m->m<=M->A8 (ρ.below (Hs m).next) (Hs m) w w0
variable (hd:Bi ops.toList=true) (hst:∀ (i:Nat) o,ops[i]? =some o->BI P nt ops i o (CA P ops.toList (CI ops.toList []) i) (Ts i) (Ts (i+1)) (Hs i) (Hs (i+1)))
include hd hst
omit hd in
theorem Lf {i:Nat} {o:Oper} (hi:ops[i]? =some o):B.val (Hs i).next<=B.val (Hs (i+1)).next/\(Hs (i+1)).floor=(Hs i).floor:=by
 obtain⟨v,h2,e1,e2,e3,e4,_⟩:=(hst i o hi).ex
 cases hb:CA P ops.toList (CI ops.toList []) i with
 |true=>rw[hb]at e2 e4;simp only[if_true]at e2 e4;rw[e4];exact⟨e3,e2.1⟩
 |false=>rw[hb]at e4;simp only[Bool.false_eq_true,if_false]at e4;rw[e4,Fx];exact⟨e3,rfl⟩
omit hd in
theorem O2 {i:Nat} {o:Oper} (hi:ops[i]? =some o) (hb:CA P ops.toList (CI ops.toList []) i=false) {id:B} (hid:B.val id<B.val (Hs i).next):(Hs (i+1)).heap.get id=(Hs i).heap.get id:=by
 obtain⟨v,h2,e1,e2,e3,e4,_⟩:=(hst i o hi).ex
 rw[hb]at e2 e4
 simp only[Bool.false_eq_true,if_false]at e2 e4
 rw[e4,Fx]
 have:=e2.2 (by rw[DI,Dp];exact Nat.le_refl _) id (by rw[DI];exact hid)
 rw[Lz]at this
 exact this
omit hd in
theorem B1:∀ {m n:Nat},m<=n->n<=ops.size->B.val (Hs m).next<=B.val (Hs n).next:=by
 intro m n hmn
 induction n with
 |zero=>intro _;have:m=0:=by omega
        subst this;exact Nat.le_refl _
 |succ n ih=>
  intro hn
  by_cases h:m<=n
  ·have hi:ops[n]? =some (ops[n]'(by omega)):=by simp
   exact Nat.le_trans (ih h (by omega)) (Lf hst hi).1
  ·have:m=n+1:=by omega
   subst this;exact Nat.le_refl _
omit hd in
theorem Gh:∀ {n:Nat},n<=ops.size->(Hs n).floor=(Hs 0).floor:=by
 intro n
 induction n with
 |zero=>intro _;rfl
 |succ n ih=>
  intro hn
  have hi:ops[n]? =some (ops[n]'(by omega)):=by simp
  exact(Lf hst hi).2.trans (ih (by omega))
omit hd in
theorem Hn {s M:Nat} (hMN:M<=ops.size) (hnb:∀ j,s<=j->j<M->CA P ops.toList (CI ops.toList []) j=false):∀ {m n:Nat},s<=m->m<=n->n<=M->∀ {id:B},B.val id<B.val (Hs m).next->(Hs n).heap.get id=(Hs m).heap.get id:=by
 intro m n hsm hmn
 induction n with
 |zero=>intro _ id _;have:m=0:=by omega
        subst this;rfl
 |succ n ih=>
  intro hn id hid
  by_cases h:m<=n
  ·have hi:ops[n]? =some (ops[n]'(by omega)):=by simp
   rw[O2 hst hi (hnb n (by omega) (by omega)) (Nat.lt_of_lt_of_le hid (B1 hst h (by omega)))]
   exact ih h (by omega) hid
  ·have:m=n+1:=by omega
   subst this;rfl
omit hd in
theorem Ky:∀ {m n q:Nat},q<512->m<=n->n<=ops.size->(∀ (j:Nat) o,ops[j]? =some o->o.dst=some q->m<=j->j<n->False)->Bm (AT q) (Ts n)=Bm (AT q) (Ts m):=by
 intro m n q hq hmn
 induction n with
 |zero=>intro _ _;have:m=0:=by omega
        subst this;rfl
 |succ n ih=>
  intro hn hno
  by_cases h:m<=n
  ·have hi:ops[n]? =some (ops[n]'(by omega)):=by simp
   rw[(hst n _ hi).rest q hq (fun e=>hno n _ hi e h (by omega))]
   exact ih h (by omega) fun j o hj hd h1 h2=>hno j o hj hd h1 (by omega)
  ·have:m=n+1:=by omega
   subst this;rfl
/--of an operation that may Aa up,whoever writes what it looks at,or writes where it writes,has Aa up if and only if it stands ahead of it -/
theorem ahead {listed:Array Bool} (hc:Ez ops.toList listed) {i:Nat} {oi:Oper} (hi:ops[i]? =some oi) (hni:¬Cd listed i) (hr:∀ e∈oi.after.toList,Region.binds .any e=true->Cd listed e.on)
 {q:Nat} (hq:q∈looks ops.toList oi\/oi.dst=some q) {j:Nat} {oj:Oper} (hj:ops[j]? =some oj) (hdj:oj.dst=some q) (hji:j≠i):j<i↔Cd listed j:=by
 have hi':ops.toList[i]? =some oi:=by simpa using hi
 have hj':ops.toList[j]? =some oj:=by simpa using hj
 have hqj:q∈Ho oj:=by simp[Ho,hdj]
 constructor
 ·intro hlt
  rcases JM hd hj' hi' hlt with h|h
  ·exact h.Tc hc fun o ho e he hb=>by rw[hi']at ho;cases ho;exact hr e he hb
  ·simp only[Gy,Bool.and_eq_true]at h
   rcases hq with hq|hq
   ·exact(DU h.2.1 hqj hq).elim
   ·exact(DU h.1 hqj (by simp[Ho,hq])).elim
 ·intro hin
  refine Decidable.byContradiction fun hlt=>?_
  have hlt':i<j:=by omega
  rcases JM hd hi' hj' hlt' with h|h
  ·exact hni (h.Tc hc fun o ho e he hb=>hc j o ho hin e he hb)
  ·simp only[Gy,Bool.and_eq_true]at h
   rcases hq with hq|hq
   ·exact(DU h.2.2 hqj hq).elim
   ·exact(DU h.1 (by simp[Ho,hq]) hqj).elim
theorem Ud {listed:Array Bool} (hc:Ez ops.toList listed) {ρ0:BC} {w0:World} {a:Act} {w:World} {ρ:BC} {s M:Nat} (I:Inv P nt ops Ts Hs ρ0 w0 listed a w ρ s M)
 {i:Nat} {oi:Oper} (hi:ops[i]? =some oi) (hni:¬Cd listed i) (hr:∀ e∈oi.after.toList,Region.binds .any e=true->Cd listed e.on):LO nt ops.toList oi (ρ.below (Hs i).next) (Ts i) a:=by
 refine⟨I.size,fun q hq h5=>?_⟩
 obtain⟨m,hm,hm0,hw,hv⟩:=I.Dj q h5
 have Lo:i<ops.size:=(Array.getElem?_eq_some_iff.1 hi).1
 have key:∀ (j:Nat) o,ops[j]? =some o->o.dst=some q->j≠i->(j<m↔j<i):=fun j o hj hdj hji=>(hw j o hj hdj).trans (ahead hd hst hc hi hni hr (.inl hq) hj hdj hji).symm
 have self:oi.dst=some q->¬i<m:=fun hdi h=>hni ((hw i oi hi hdi).1 h)
 have hmi:m<=i:=by
  rcases hm0 with h0|⟨j,o,rfl,hj,hdj⟩
  ·omega
  ·by_cases hji:j=i
   ·subst hji
    rw[hi]at hj;cases hj
    exact absurd (Nat.lt_succ_self j) (self hdj)
   ·have:=(key j o hj hdj hji).1 (Nat.lt_succ_self j)
    omega
 have:Bm (AT q) (Ts i)=Bm (AT q) (Ts m):=by
  refine Ky hst h5 hmi (by omega) fun j o hj hdj h1 h2=>?_
  have:=(key j o hj hdj (by omega)).2 h2
  omega
 rw[this];exact A1.up (BC.HE (BC.le_refl ρ) (B1 hst hmi (by omega))) _ _ hv
/--the Dj behind an operation -/
theorem Io {listed:Array Bool} (hc:Ez ops.toList listed) {ρ0:BC} {w0:World} {a:Act} {w:World} {ρ:BC} {s M:Nat} (I:Inv P nt ops Ts Hs ρ0 w0 listed a w ρ s M)
 {i:Nat} {oi:Oper} (hi:ops[i]? =some oi) (hni:¬Cd listed i) (hr:∀ e∈oi.after.toList,Region.binds .any e=true->Cd listed e.on) {listed':Array Bool} (hl:∀ j,Cd listed' j↔(Cd listed j\/j=i))
 {ρ':BC} (hle:ρ.le ρ') {x:Value} (hx:∀ q,oi.dst=some q->A1 (ρ'.below (Hs (i+1)).next) (Bm (AT q) (Ts (i+1))) x):
 ∀ q,q<512->∃ m,m<=ops.size/\(m=0\/∃ j o,m=j+1/\ops[j]? =some o/\o.dst=some q)/\(∀ (j:Nat) o,ops[j]? =some o->o.dst=some q->(j<m↔Cd listed' j))/\A1 (ρ'.below (Hs m).next) (Bm (AT q) (Ts m)) ((a.put oi.dst x).tmps.getD q undef):=by
 intro q h5
 have Lo:i<ops.size:=(Array.getElem?_eq_some_iff.1 hi).1
 by_cases hdq:oi.dst=some q
 ·refine⟨i+1,by omega,.inr ⟨i,oi,rfl,hi,hdq⟩,fun j o hj hdj=>?_,?_⟩
  ·rw[hl]
   by_cases hji:j=i
   ·subst hji;constructor
    ·intro _;exact .inr rfl
    ·intro _;omega
   ·have:=ahead hd hst hc hi hni hr (.inr hdq) hj hdj hji
    constructor
    ·intro h;exact .inl (this.1 (by omega))
    ·rintro(h|h)
     ·have:=this.2 h;omega
     ·exact absurd h hji
  ·have hqn:=((hst i oi hi).dst q hdq).1
   have:((a.put oi.dst x).tmps.getD q undef)=x:=by rw[hdq];simp[Act.put,I.size,hqn]
   rw[this];exact hx q hdq
 ·obtain⟨m,hm,hm0,hw,hv⟩:=I.Dj q h5
  refine⟨m,hm,hm0,fun j o hj hdj=>?_,?_⟩
  ·rw[hl,hw j o hj hdj]
   constructor
   ·intro h;exact .inl h
   ·rintro(h|h)
    ·exact h
    ·subst h;rw[hi]at hj;cases hj;exact absurd hdj hdq
  ·have:((a.put oi.dst x).tmps.getD q undef)=a.tmps.getD q undef:=by
    cases hdst:oi.dst with
    |none=>rfl
    |some d=>
     simp only[Act.put,Array.getD_eq_getD_getElem?,Array.getElem?_setIfInBounds]
     rw[if_neg (fun e=>hdq (by rw[hdst,e]))]
   rw[this];exact A1.up (BC.HE hle (Nat.le_refl _)) _ _ hv
theorem KA (n:Nat):∀ k,n+k=ops.size->∃ M,n<=M/\M<=ops.size/\(∀ j,n<=j->j<M->CA P ops.toList (CI ops.toList []) j=false)/\(M=ops.size\/CA P ops.toList (CI ops.toList []) M=true):=by
 intro k
 induction k generalizing n with
 |zero=>intro h;exact⟨n,Nat.le_refl _,by omega,fun j h1 h2=>by omega,.inl (by omega)⟩
 |succ k ih=>
  intro h
  cases hb:CA P ops.toList (CI ops.toList []) n with
  |true=>exact⟨n,Nat.le_refl _,by omega,fun j h1 h2=>by omega,.inr hb⟩
  |false=>
   obtain⟨M,m1,m2,m3,m4⟩:=ih (n+1) (by omega)
   exact⟨M,by omega,m2,fun j h1 h2=>by
    by_cases hj:j=n
    ·rw[hj];exact hb
    ·exact m3 j (by omega) h2,m4⟩
/--WHICHEVER OPERATION COMES UP,what is known stays known. -/
theorem TV {listed:Array Bool} (hc:Ez ops.toList listed) {ρ0:BC} {w0:World} {a:Act} {w:World} {ρ:BC} {s M:Nat} (I:Inv P nt ops Ts Hs ρ0 w0 listed a w ρ s M)
 {i:Nat} {oi:Oper} (hi:ops[i]? =some oi) (hni:¬Cd listed i) (hr:∀ e∈oi.after.toList,Region.binds .any e=true->Cd listed e.on) {listed':Array Bool} (hl:∀ j,Cd listed' j↔(Cd listed j\/j=i))
 {K:Act->World->Prop} {Q:Exit->Act->World->Prop} (hK:∀ a' w' ρ' s' M',Inv P nt ops Ts Hs ρ0 w0 listed' a' w' ρ' s' M'->K a' w'):wpOp P ops Q i K a w:=by
 have hi':ops.toList[i]? =some oi:=by simpa using hi
 have Lo:i<ops.size:=(Array.getElem?_eq_some_iff.1 hi).1
 have hlook:=Ud hd hst hc I hi hni hr
 have S:=hst i oi hi
 obtain⟨v,h2,e1,e2,e3,e4,e5,e6⟩:=S.ex
 have hdf:∀ x,(a.put oi.dst x).defers=[]:=fun x=>by cases oi.dst<;>exact I.defers
 have hsz:∀ x,(a.put oi.dst x).tmps.size=nt:=fun x=>by cases oi.dst<;>simp[Act.put,I.size]
 cases hs:still P oi.op with
 |true=>
  refine e6 hs (ρ.below (Hs i).next) a w K Q hlook fun x hx=>hK _ w ρ s M ?_
  refine⟨hsz x,hdf x,I.ext,Io hd hst hc I hi hni hr hl (BC.le_refl ρ) (fun q hq=>by rw[e1 q hq,S.calm hs];exact hx),I.sM,I.MN,fun j o hj h1 h2=>(hl j).2 (.inl (I.lo j o hj h1 h2)),fun j o hj h1 h2 h3=>?_,I.Od,I.rR,I.z5,
   fun id g L hL j o hj hnj=>I.eW id g L hL j o hj fun h=>hnj ((hl j).2 (.inl h)),I.heap⟩
  rcases(hl j).1 h3 with h3|h3
  ·exact I.hi j o hj h1 h2 h3
  ·subst h3;rw[hi]at hj;cases hj;rw[hs]at h1;cases h1
 |false=>
  have hsi:s<=i:=Nat.le_of_not_lt fun h=>hni (I.lo i oi hi hs h)
  cases hb:CA P ops.toList (CI ops.toList []) i with
  |true=>
   --a HA:it is the next one
   have hiM:i=M:=by
    rcases Nat.lt_trichotomy i M with h|h|h
    ·rw[I.Od i hsi h]at hb;cases hb
    ·exact h
    ·rcases I.rR with h'|h'
     ·omega
     ·have hMl:ops[M]? =some (ops[M]'(by omega)):=Array.getElem?_eq_getElem _
      have hloud:=KM h' ((Array.getElem?_toList (xs:=ops) (i:=M)).trans hMl)
      rcases Jp (oj:=oi) h' hi' hs (by omega)with hR|hR
      ·exact absurd (hR.Tc hc fun o ho e he hbb=>by rw[hi']at ho;cases ho;exact hr e he hbb) (I.hi M _ hMl hloud (Nat.le_refl _))
      ·have:=hR.lt (by simp only[Bi,Bool.and_eq_true]at hd;exact hd.1);omega
   subst hiM
   rw[hb]at e2 e4 e5
   simp only[if_true]at e2 e4 e5
   have hup:EV 0 ops.toList=true:=by simp only[Bi,Bool.and_eq_true]at hd;exact hd.1
   have hbelow:∀ id g L,ρ id g=some L->ρ.below (Hs i).next id g=some L:=fun id g L hL=>BC.Cl hL (I.z5 _ _ _ hL)
   refine e5 (ρ.below (Hs i).next) a w w0 K Q hlook (I.heap i hsi (Nat.le_refl _)) fun ρ' x w' hE hx hR=>?_
   obtain⟨M',m1,m2,m3,m4⟩:=KA hd hst (i+1) (ops.size-(i+1)) (by omega)
   have hle:ρ.le ρ':=fun id g L hL=>hE.1 _ _ _ (hbelow _ _ _ hL)
   rw[<-e4]at hR
   refine hK _ w' ρ' (i+1) M' ⟨hsz x,hdf x,I.ext.trans ⟨hle,fun id g L hL=>?_⟩,Io hd hst hc I hi hni hr hl hle (fun q hq=>by rw[e1 q hq];exact A1.up (fun id g L hL=>BC.Cl hL (hR.ids _ _ _ hL)) _ _ hx),m1,m2,fun j o hj h1 h2=>?_,fun j o hj h1 h2 h3=>?_,m3,m4,
    fun id g L hL=>Nat.lt_of_lt_of_le (hR.ids _ _ _ hL) (B1 hst m1 m2),fun id g L hL j o hj hnj hbd=>?_,fun m h1 h2=>?_⟩
   ·rcases hE.2 _ _ _ hL with h|h
    ·exact .inl (BC.C5 h).1
    ·right;rw[<-Gh hst (n:=i) (by omega)];exact h
   ·rw[hl]
    by_cases hji:j=i
    ·exact .inr hji
    ·left
     have hj':ops.toList[j]? =some o:=by simpa using hj
     rcases Jp hb hj' h1 (fun e=>hji e.symm)with hR'|hR'
     ·have:=hR'.lt hup;omega
     ·exact hR'.Tc hc fun o' ho e he hbb=>by rw[hi']at ho;cases ho;exact hr e he hbb
   ·have hj':ops.toList[j]? =some o:=by simpa using hj
    rcases(hl j).1 h3 with h3|h3
    ·exact I.hi j o hj h1 (by omega) h3
    ·omega
   ·by_cases hso:still P o.op=true
    ·rw[(hst j o hj).calm hso]at hbd;omega
    ·have hso':still P o.op=false:=by simpa using hso
     have hji:i<j:=by
      refine Nat.lt_of_not_le fun hle'=>hnj ((hl j).2 ?_)
      by_cases hji:j=i
      ·exact .inr hji
      ·left
       have hj':ops.toList[j]? =some o:=by simpa using hj
       rcases Jp hb hj' hso' (fun e=>hji e.symm)with hR'|hR'
       ·have:=hR'.lt hup;omega
       ·exact hR'.Tc hc fun o' ho e he hbb=>by rw[hi']at ho;cases ho;exact hr e he hbb
     have hjN:j<ops.size:=(Array.getElem?_eq_some_iff.1 hj).1
     have:=B1 hst (m:=i+1) (n:=j) (by omega) (by omega)
     have:=hR.ids _ _ _ hL
     omega
   ·have hmN:m<=ops.size:=by omega
    have hR2:A8 ρ' (Hs m) w' w0:=hR.TO (fun id g L hL=>Hn hst m2 m3 (Nat.le_refl _) h1 h2 (hR.ids _ _ _ hL)) (B1 hst h1 hmN) ((Gh hst hmN).trans (Gh hst (by omega)).symm)
    exact hR2.congr fun id g=>by
     cases hL:ρ' id g with
     |none=>unfold BC.below;rw[hL];split<;>rfl
     |some L=>exact BC.Cl hL (hR2.ids _ _ _ hL)
  |false=>
   --it reads,and lays new blocks
   have hiM:i<M:=by
    refine Nat.lt_of_not_le fun hle=>?_
    rcases I.rR with h'|h'
    ·omega
    ·have hne:i≠M:=fun e=>by rw[e,h']at hb;cases hb
     have hMN:M<ops.size:=by omega
     have hMl:ops[M]? =some (ops[M]'hMN):=Array.getElem?_eq_getElem _
     have hloud:=KM h' ((Array.getElem?_toList (xs:=ops) (i:=M)).trans hMl)
     rcases Jp (oj:=oi) h' hi' hs (fun e=>hne e.symm)with hR|hR
     ·exact absurd (hR.Tc hc fun o ho e he hbb=>by rw[hi']at ho;cases ho;exact hr e he hbb) (I.hi M _ hMl hloud (Nat.le_refl _))
     ·have:=hR.lt (by simp only[Bi,Bool.and_eq_true]at hd;exact hd.1);omega
   rw[hb]at e2 e4 e5
   simp only[Bool.false_eq_true,if_false]at e2 e4 e5
   have hRi:=I.heap i hsi (Nat.le_of_lt hiM)
   have hnxt:(Hs (i+1)).next=h2.next:=by rw[e4,Fx]
   have hhp:(Hs (i+1)).heap=h2.heap:=by rw[e4,Fx]
   have hfl2:h2.floor=(Hs i).next:=by rw[e2.1,DI]
   refine e5 (ρ.below (Hs i).next) a w w K Q hlook hRi.Tq fun ρ' x w' hE hx hR=>?_
   rw[DI]at hE
   have hids:∀ id g L,ρ' id g=some L->B.val id<B.val (Hs (i+1)).next:=fun id g L hL=>by rw[hnxt];exact hR.ids _ _ _ hL
   have hle:ρ.le (ρ.or ρ'):=fun id g L hL=>by unfold BC.or;rw[hL];rfl
   have hle':ρ'.le (ρ.or ρ'):=fun id g L hL=>by
    unfold BC.or
    cases hr0:ρ id g with
    |none=>exact hL
    |some L0=>
     rcases hE.2 _ _ _ hL with h|h
     ·have:=(BC.C5 h).1
      rw[hr0]at this;exact this
     ·exact absurd ⟨h,hids _ _ _ hL⟩ (I.eW id g L0 hr0 i oi hi hni)
   have hnew:∀ id g L,ρ.or ρ' id g=some L->ρ id g=some L\/(ρ id g=none/\ρ' id g=some L/\B.val (Hs i).next<=B.val id):=fun id g L hL=>by
    unfold BC.or at hL
    cases hr0:ρ id g with
    |some L0=>rw[hr0]at hL;left;exact hL
    |none=>
     rw[hr0]at hL
     have hL':ρ' id g=some L:=hL
     rcases hE.2 _ _ _ hL' with h|h
     ·have:=(BC.C5 h).1
      rw[hr0]at this;cases this
     ·exact .inr ⟨rfl,hL',h⟩
   have hup:ρ'.le ((ρ.or ρ').below (Hs (i+1)).next):=fun id g L hL=>BC.Cl (hle' _ _ _ hL) (hids _ _ _ hL)
   have hMN:=I.MN
   refine hK _ w' (ρ.or ρ') s M ⟨hsz x,hdf x,I.ext.trans ⟨hle,fun id g L hL=>?_⟩,Io hd hst hc I hi hni hr hl hle (fun q hq=>by rw[e1 q hq];exact A1.up hup _ _ hx),I.sM,I.MN,
    fun j o hj h1 h2=>(hl j).2 (.inl (I.lo j o hj h1 h2)),fun j o hj h1 h2 h3=>?_,I.Od,I.rR,fun id g L hL=>?_,fun id g L hL j o hj hnj hbd=>?_,fun m h1 h2=>?_⟩
   ·rcases hnew _ _ _ hL with h|⟨_,_,h⟩
    ·exact .inl h
    ·right
     have:=hRi.Kw
     rw[Gh hst (n:=i) (by omega)]at this
     omega
   ·rcases(hl j).1 h3 with h3|h3
    ·exact I.hi j o hj h1 h2 h3
    ·omega
   ·rcases hnew _ _ _ hL with h|⟨_,h,_⟩
    ·exact I.z5 _ _ _ h
    ·exact Nat.lt_of_lt_of_le (hids _ _ _ h) (B1 hst (by omega) hMN)
   ·rcases hnew _ _ _ hL with h|⟨_,h,hge⟩
    ·exact I.eW id g L h j o hj (fun h'=>hnj ((hl j).2 (.inl h'))) hbd
    ·have hjN:j<ops.size:=(Array.getElem?_eq_some_iff.1 hj).1
     have hlt:=hids _ _ _ h
     rcases Nat.lt_trichotomy j i with hji|hji|hji
     ·have:=B1 hst (m:=j+1) (n:=i) (by omega) (by omega)
      omega
     ·exact hnj ((hl j).2 (.inr hji))
     ·have:=B1 hst (m:=i+1) (n:=j) (by omega) (by omega)
      omega
   ·by_cases hmi:m<=i
    ·have hg:=(I.heap m h1 h2).grow (w':=w') hR.H0 hR.JN hR.tp hR.os hR.out
     refine hg.congr fun id g=>?_
     unfold BC.below
     split
     ·rename_i hlt
      unfold BC.or
      cases hr0:ρ id g with
      |some L0=>rfl
      |none=>
       cases hr1:ρ' id g with
       |none=>rfl
       |some L=>
        rcases hE.2 _ _ _ hr1 with h|h
        ·have:=(BC.C5 h).1
         rw[hr0]at this;cases this
        ·have:=B1 hst hmi (by omega)
         omega
     ·rfl
    ·have hmN:m<=ops.size:=by omega
     refine A8.merge (I.heap m h1 h2) hR (BC.HE hle (Nat.le_refl _)) (fun id g L hL=>BC.Cl (hle' _ _ _ hL) (Nat.lt_of_lt_of_le (hids _ _ _ hL) (B1 hst (by omega) hmN))) fun id g L hL=>?_
     obtain⟨hL1,hL2⟩:=BC.C5 hL
     rcases hnew _ _ _ hL1 with h|⟨_,h,hge⟩
     ·exact .inl (BC.Cl h hL2)
     ·refine .inr ⟨h,by rw[hfl2];exact hge,hL2,?_⟩
      rw[<-hhp]
      exact Hn hst hMN I.Od (by omega) (by omega) h2 (hids _ _ _ h)
theorem NI {listed:Array Bool} {ρ0:BC} {w0:World} {a:Act} {w:World} {ρ:BC} {s M:Nat} (I:Inv P nt ops Ts Hs ρ0 w0 listed a w ρ s M) (hall:∀ i,i<ops.size->Cd listed i):
 Ext (Hs 0).floor ρ0 ρ/\CS ρ nt (Ts ops.size) a/\A8 ρ (Hs ops.size) w w0:=by
 have hM:M=ops.size:=by
  rcases I.rR with h|h
  ·exact h
  ·by_cases hMN:M<ops.size
   ·have hMl:ops[M]? =some (ops[M]'hMN):=Array.getElem?_eq_getElem _
    have hloud:=KM h ((Array.getElem?_toList (xs:=ops) (i:=M)).trans hMl)
    exact absurd (hall M hMN) (I.hi M _ hMl hloud (Nat.le_refl _))
   ·have:=I.MN;omega
 subst hM
 refine⟨I.ext,⟨I.defers,I.size,fun q h5=>?_⟩,(I.heap _ I.sM (Nat.le_refl _)).congr fun id g=>?_⟩
 ·obtain⟨m,hm,hm0,hw,hv⟩:=I.Dj q h5
  have:Bm (AT q) (Ts ops.size)=Bm (AT q) (Ts m):=Ky hst h5 hm (Nat.le_refl _) fun j o hj hdj h1 h2=>by
   have:=(hw j o hj hdj).2 (hall j h2)
   omega
  rw[this];exact A1.up (BC.RW _ _) _ _ hv
 ·cases hr0:ρ id g with
  |none=>unfold BC.below;rw[hr0];split<;>rfl
  |some L=>exact(BC.Cl hr0 (I.z5 _ _ _ hr0)).symm
def left (n:Nat) (listed:Array Bool):Nat:=((List.range n).filter fun i=>!listed.getD i false).length
omit hd hst in
theorem GY {α:Type} (p p':α->Bool):∀ (l:List α),(∀ x∈l,p' x=true->p x=true)->(∃ x∈l,p x=true/\p' x=false)->(l.filter p').length<(l.filter p).length
 |[],_,h=>by obtain⟨x,hx,_⟩:=h;cases hx
 |y::l,h1,h2=>by
  have hle:(l.filter p').length<=(l.filter p).length:=by
   have hsub:∀ (l:List α),(∀ x∈l,p' x=true->p x=true)->(l.filter p').length<=(l.filter p).length:=by
    intro l
    induction l with
    |nil=>intro _;exact Nat.le_refl _
    |cons z l ih=>
     intro h
     have:=ih fun x hx=>h x (by simp[hx])
     rw[List.filter_cons,List.filter_cons]
     cases hp':p' z with
     |true=>rw[h z (by simp) hp'];simp;exact this
     |false=>cases p z<;>simp<;>omega
   exact hsub l fun x hx=>h1 x (by simp[hx])
  rw[List.filter_cons,List.filter_cons]
  obtain⟨x,hx,hp,hp'⟩:=h2
  rcases List.mem_cons.1 hx with rfl|hx
  ·rw[hp,hp'];simp;omega
  ·have ih:=GY p p' l (fun x hx=>h1 x (by simp[hx])) ⟨x,hx,hp,hp'⟩
   cases hq':p' y with
   |true=>rw[h1 y (by simp) hq'];simp;exact ih
   |false=>cases p y<;>simp<;>omega
theorem Rz {ρ0:BC} {w0:World} {Q:Exit->Act->World->Prop} (hQ:∀ ρ a w,Ext (Hs 0).floor ρ0 ρ->CS ρ nt (Ts ops.size) a->A8 ρ (Hs ops.size) w w0->Q .normal a w):
 ∀ (fuel:Nat) (listed:Array Bool) (a:Act) (w:World) (ρ:BC) (s M:Nat),listed.size=ops.size->left ops.size listed<=fuel->Ez ops.toList listed->Inv P nt ops Ts Hs ρ0 w0 listed a w ρ s M->
  wpAny P .any ops Q fuel listed a w:=by
 have hup:EV 0 ops.toList=true:=by simp only[Bi,Bool.and_eq_true]at hd;exact hd.1
 intro fuel
 induction fuel with
 |zero=>
  intro listed a w ρ s M hsz hlf hc I
  have hall:∀ i,i<ops.size->Cd listed i:=by
   intro i hi
   have h0:(List.range ops.size).filter (fun i=>!listed.getD i false)=[]:=List.eq_nil_of_length_eq_zero (by unfold left at hlf;omega)
   have:=List.filter_eq_nil_iff.1 h0 i (List.mem_range.2 hi)
   unfold Cd
   simpa using this
  obtain⟨h1,h2,h3⟩:=NI hd hst I hall
  refine⟨?_,hQ ρ a w h1 h2 h3⟩
  rw[List.eq_nil_iff_forall_not_mem]
  intro j hj
  obtain⟨hj1,o,hj2,_⟩:=mem_ready.1 hj
  have hjN:j<ops.size:=(Array.getElem?_eq_some_iff.1 hj2).1
  have:=hall j hjN
  unfold Cd at this
  have hjl:j<listed.size:=by omega
  simp[hjl]at this hj1
  rw[this]at hj1;cases hj1
 |succ fuel ih=>
  intro listed a w ρ s M hsz hlf hc I
  constructor
  ·intro hready
   by_cases hall:∀ i,i<ops.size->Cd listed i
   ·obtain⟨h1,h2,h3⟩:=NI hd hst I hall
    exact hQ ρ a w h1 h2 h3
   · --the least that has not Aa up may Aa up
     exfalso
     have hex:∃ i,i<ops.size/\¬Cd listed i:=by
      refine Classical.byContradiction fun h=>hall fun i hi=>Classical.byContradiction fun h'=>h ⟨i,hi,h'⟩
     have hleast:∃ i,(i<ops.size/\¬Cd listed i)/\∀ j,j<i->¬(j<ops.size/\¬Cd listed j):=by
      obtain⟨i,hi⟩:=hex
      induction i using Nat.strongRecOn with
      |_ i ihh=>
       by_cases h:∃ j,j<i/\(j<ops.size/\¬Cd listed j)
       ·obtain⟨j,hj,hj'⟩:=h
        exact ihh j hj hj'
       ·exact⟨i,hi,fun j hj h'=>h ⟨j,hj,h'⟩⟩
     obtain⟨i,⟨hi1,hi2⟩,hi3⟩:=hleast
     have hio:ops[i]? =some (ops[i]'hi1):=Array.getElem?_eq_getElem _
     have:i∈Region.ready .any ops listed:=by
      rw[mem_ready]
      refine⟨?_,_,hio,fun e he hb=>?_⟩
      ·have hil:i<listed.size:=by omega
       unfold Cd at hi2
       simp[hil]at hi2⊢
       exact hi2
      ·have hlt:=Er ops.toList 0 hup i _ ((Array.getElem?_toList (xs:=ops) (i:=i)).trans hio) e (by simpa using he) hb
       have:=Classical.byContradiction fun h=>hi3 e.on (by omega) ⟨by omega,h⟩
       exact this
     rw[hready]at this;cases this
  ·intro i hi
   obtain⟨hi1,o,hi2,hi3⟩:=mem_ready.1 hi
   have Lo:i<ops.size:=(Array.getElem?_eq_some_iff.1 hi2).1
   have hil:i<listed.size:=by omega
   have hni:¬Cd listed i:=by
    unfold Cd
    simp[hil]at hi1⊢
    exact hi1
   have hr:∀ e∈o.after.toList,Region.binds .any e=true->Cd listed e.on:=fun e he hb=>hi3 e (by simpa using he) hb
   have hl:∀ j,Cd (listed.setIfInBounds i true) j↔(Cd listed j\/j=i):=by
    intro j
    unfold Cd
    rw[Array.getD_eq_getD_getElem?,Array.getD_eq_getD_getElem?,Array.getElem?_setIfInBounds]
    by_cases hji:i=j
    ·subst hji;simp[hil]
    ·rw[if_neg hji]
     constructor
     ·intro h;exact .inl h
     ·rintro(h|h)
      ·exact h
      ·exact absurd h.symm hji
   refine TV hd hst hc I hi2 hni hr hl fun a' w' ρ' s' M' I'=>ih _ a' w' ρ' s' M' (by simpa using hsz) ?_ ?_ I'
   ·have:left ops.size (listed.setIfInBounds i true)<left ops.size listed:=by
     unfold left
     refine GY _ _ _ (fun x _ hx=>?_) ⟨i,List.mem_range.2 Lo,?_,?_⟩
     ·have:=hl x
      unfold Cd at this
      cases hx1:listed.getD x false with
      |false=>rfl
      |true=>rw[this.2 (.inl hx1)]at hx;exact hx
     ·unfold Cd at hni
      simpa using hni
     ·have:=(hl i).2 (.inr rfl)
      unfold Cd at this
      rw[this];rfl
    omega
   ·intro j oj hj hjin e he hb
    rw[hl]at hjin⊢
    left
    rcases hjin with h|h
    ·exact hc j oj hj h e he hb
    ·subst h
     have:ops.toList[j]? =some o:=(Array.getElem?_toList (xs:=ops) (i:=j)).trans hi2
     rw[hj]at this;cases this
     exact hr e he hb
theorem NF:∀ {n:Nat},n<=ops.size->Ax (Hs 0) (Hs n):=by
 intro n
 induction n with
 |zero=>intro _;exact Ax.refl _
 |succ n ih=>
  intro hn
  have hi:ops[n]? =some (ops[n]'(by omega)):=Array.getElem?_eq_getElem _
  refine Ax.trans (ih (by omega)) (B1 hst (Nat.zero_le _) (by omega)) ?_
  obtain⟨v,h2,e1,e2,e3,e4,_⟩:=(hst n _ hi).ex
  cases hb:CA P ops.toList (CI ops.toList []) n with
  |true=>rw[hb]at e2 e4;simp only[if_true]at e2 e4;rw[e4];exact e2
  |false=>exact⟨(Lf hst hi).2,fun hf id hid=>O2 hst hi hb (Nat.lt_of_lt_of_le hid hf)⟩
end
/--A REGION THAT DRAWS ITS ORDER:what the evaluator makes of it,in the text's order,is what the model makes of it,in any. -/
theorem NP {P:Program} (hm:P.follows .mixedOrders=true) {cf:Bn} (hcf:Fg P cf) {nt:Nat} {ops:Array Oper} (hd:Bi ops.toList=true) {t:F} {h:H} {k:F->H->Bool}
 (hk:DE cf (Ac (CA P ops.toList (CI ops.toList [])) P nt ops.toList (Ad P) 0 ops.toList) t h k=true):
 ∃ t' h',(∀ k',DE cf (Ac (CA P ops.toList (CI ops.toList [])) P nt ops.toList (Ad P) 0 ops.toList) t h k'=k' t' h')/\Ax h h'/\B.val h.next<=B.val h'.next/\
  ∀ ρ a w w0 (id:Nat) (Q:Exit->Act->World->Prop),CS ρ nt t a->A8 ρ h w w0->(∀ ρ' a' w',Ext h.floor ρ ρ'->CS ρ' nt t' a'->A8 ρ' h' w' w0->Q .normal a' w')->(Code.region id ops true).wp P Q a w:=by
 obtain⟨Ts,Hs,b1,b2,b3,b4⟩:=RK hcf _ ops.toList 0 (by simp) t h k hk
 have hst:∀ (i:Nat) o,ops[i]? =some o->BI P nt ops i o (CA P ops.toList (CI ops.toList []) i) (Ts i) (Ts (i+1)) (Hs i) (Hs (i+1)):=fun i o hi=>b4 i o (Nat.zero_le _) hi
 have hlen:0+ops.toList.length=ops.size:=by simp
 rw[hlen]at b3
 refine⟨Ts ops.size,Hs ops.size,b3,by rw[<-b2];exact NF hd hst (Nat.le_refl _),by rw[<-b2];exact B1 hst (Nat.zero_le _) (Nat.le_refl _),fun ρ a w w0 id Q A R hQ=>?_⟩
 refine wp_region_any hm ?_
 have hR1:A8 ρ h {w with drawn:=w.drawn+1} w0:=R.dr _
 obtain⟨M,m1,m2,m3,m4⟩:=KA (P:=P) (nt:=nt) (Ts:=Ts) (Hs:=Hs) hd hst 0 ops.size (by omega)
 have hno:∀ j,¬Cd (Array.replicate ops.size false) j:=by
  intro j;unfold Cd
  by_cases hj:j<ops.size<;>simp[hj]
 refine Rz hd hst (ρ0:=ρ) (w0:=w0) (fun ρ' a' w' h1 h2 h3=>hQ ρ' a' w' (by rw[<-b2];exact h1) h2 h3) ops.size _ a _ ρ 0 M (by simp) (by unfold left;exact Nat.le_trans (List.length_filter_le _ _) (by simp)) (fun j o hj hin=>absurd hin (hno j)) ?_
 refine⟨A.size,A.defers,Ext.refl _ _,fun q h5=>⟨0,Nat.zero_le _,.inl rfl,fun j o hj hdj=>⟨fun h=>by omega,fun h=>absurd h (hno j)⟩,?_⟩,Nat.zero_le _,m2,fun j o hj h1 h2=>by omega,fun j o hj h1 h2=>hno j,m3,m4,
  fun i g L hL=>?_,fun i g L hL j o hj hnj hbd=>?_,fun m h1 h2=>?_⟩
 ·rw[b1,b2]
  exact A1.up (fun i g L hL=>BC.Cl hL (R.ids _ _ _ hL)) _ _ (A.slot q h5)
 ·have:=R.ids _ _ _ hL
  rw[<-b2]at this
  exact Nat.lt_of_lt_of_le this (B1 hst (Nat.zero_le _) m2)
 ·have:=R.ids _ _ _ hL
  rw[<-b2]at this
  have hjN:j<ops.size:=(Array.getElem?_eq_some_iff.1 hj).1
  have:=B1 hst (m:=0) (n:=j) (Nat.zero_le _) (by omega)
  omega
 ·have hmN:m<=ops.size:=by omega
  rw[<-b2]at hR1
  have hR2:A8 ρ (Hs m) {w with drawn:=w.drawn+1} w0:=hR1.TO (fun i g L hL=>Hn hst m2 m3 (Nat.le_refl _) h1 h2 (hR1.ids _ _ _ hL)) (B1 hst h1 hmN) (Gh hst hmN)
  exact hR2.congr fun i g=>by
   cases hL:ρ i g with
   |none=>unfold BC.below;rw[hL];split<;>rfl
   |some L=>exact BC.Cl hL (hR2.ids _ _ _ hL)
end Go.Ev
namespace Go.Ev
open Go
section
variable {P:Program} {nt:Nat} {ops:Array Oper} {Ts:Nat->F}
theorem RB (hd:Bi ops.toList=true) {listed:Array Bool} (hc:Ez ops.toList listed) {i:Nat} {oi:Oper} (hi:ops[i]? =some oi) (hni:¬Cd listed i) (hr:∀ e∈oi.after.toList,Region.binds .any e=true->Cd listed e.on)
 {q:Nat} (hq:q∈looks ops.toList oi\/oi.dst=some q) {j:Nat} {oj:Oper} (hj:ops[j]? =some oj) (hdj:oj.dst=some q) (hji:j≠i):j<i↔Cd listed j:=by
 have hi':ops.toList[i]? =some oi:=by simpa using hi
 have hj':ops.toList[j]? =some oj:=by simpa using hj
 have hqj:q∈Ho oj:=by simp[Ho,hdj]
 constructor
 ·intro hlt
  rcases JM hd hj' hi' hlt with h|h
  ·exact h.Tc hc fun o ho e he hb=>by rw[hi']at ho;cases ho;exact hr e he hb
  ·simp only[Gy,Bool.and_eq_true]at h
   rcases hq with hq|hq
   ·exact(DU h.2.1 hqj hq).elim
   ·exact(DU h.1 hqj (by simp[Ho,hq])).elim
 ·intro hin
  refine Decidable.byContradiction fun hlt=>?_
  have hlt':i<j:=by omega
  rcases JM hd hi' hj' hlt' with h|h
  ·exact hni (h.Tc hc fun o ho e he hb=>hc j o ho hin e he hb)
  ·simp only[Gy,Bool.and_eq_true]at h
   rcases hq with hq|hq
   ·exact(DU h.2.2 hqj hq).elim
   ·exact(DU h.1 (by simp[Ho,hq]) hqj).elim
/--what each operation leaves of the Dj -/
def iD (nt:Nat) (ops:Array Oper) (Ts:Nat->F):Prop:=∀ (i:Nat) o,ops[i]? =some o->(∀ q,o.dst=some q->q<nt/\q<512)/\∀ q,q<512->o.dst≠some q->Bm (AT q) (Ts (i+1))=Bm (AT q) (Ts i)
theorem J0 (hs:iD nt ops Ts):∀ {m n q:Nat},q<512->m<=n->n<=ops.size->(∀ (j:Nat) o,ops[j]? =some o->o.dst=some q->m<=j->j<n->False)->Bm (AT q) (Ts n)=Bm (AT q) (Ts m):=by
 intro m n q hq hmn
 induction hmn with
 |refl=>intro _ _;rfl
 |@step k hk ih=>
  intro hN hno
  have ho:ops[k]? =some (ops[k]'(by omega)):=Array.getElem?_eq_getElem _
  rw[(hs k _ ho).2 q hq fun e=>hno k _ ho e hk (Nat.lt_succ_self _)]
  exact ih (by omega) fun j o hj hd h1 h2=>hno j o hj hd h1 (by omega)
def Ju (ops:Array Oper) (Ts:Nat->F) (listed:Array Bool) (a:Act) (ρ:BC):Prop:=∀ q,q<512->∃ m,m<=ops.size/\(m=0\/∃ j o,m=j+1/\ops[j]? =some o/\o.dst=some q)/\(∀ (j:Nat) o,ops[j]? =some o->o.dst=some q->(j<m↔Cd listed j))/\A1 ρ (Bm (AT q) (Ts m)) (a.tmps.getD q undef)
theorem mn (hd:Bi ops.toList=true) (hs:iD nt ops Ts) {listed:Array Bool} (hc:Ez ops.toList listed) {a:Act} {ρ:BC} (hsz:a.tmps.size=nt) (I:Ju ops Ts listed a ρ)
 {i:Nat} {oi:Oper} (hi:ops[i]? =some oi) (hni:¬Cd listed i) (hr:∀ e∈oi.after.toList,Region.binds .any e=true->Cd listed e.on):LO nt ops.toList oi ρ (Ts i) a:=by
 refine⟨hsz,fun q hq h5=>?_⟩
 obtain⟨m,hm,hm0,hw,hv⟩:=I q h5
 have Lo:i<ops.size:=(Array.getElem?_eq_some_iff.1 hi).1
 have key:∀ (j:Nat) o,ops[j]? =some o->o.dst=some q->j≠i->(j<m↔j<i):=fun j o hj hdj hji=>(hw j o hj hdj).trans (RB hd hc hi hni hr (.inl hq) hj hdj hji).symm
 have self:oi.dst=some q->¬i<m:=fun hdi h=>hni ((hw i oi hi hdi).1 h)
 have hmi:m<=i:=by
  rcases hm0 with h0|⟨j,o,rfl,hj,hdj⟩
  ·omega
  ·by_cases hji:j=i
   ·subst hji
    rw[hi]at hj;cases hj
    exact absurd (Nat.lt_succ_self j) (self hdj)
   ·have:=(key j o hj hdj hji).1 (Nat.lt_succ_self j)
    omega
 have:Bm (AT q) (Ts i)=Bm (AT q) (Ts m):=by
  refine J0 hs h5 hmi (by omega) fun j o hj hdj h1 h2=>?_
  have:=(key j o hj hdj (by omega)).2 h2
  omega
 rw[this];exact hv
theorem rU (hd:Bi ops.toList=true) (hs:iD nt ops Ts) {listed:Array Bool} (hc:Ez ops.toList listed) {a:Act} {ρ:BC} (hsz:a.tmps.size=nt) (I:Ju ops Ts listed a ρ)
 {i:Nat} {oi:Oper} (hi:ops[i]? =some oi) (hni:¬Cd listed i) (hr:∀ e∈oi.after.toList,Region.binds .any e=true->Cd listed e.on) {listed':Array Bool} (hl:∀ j,Cd listed' j↔(Cd listed j\/j=i))
 {ρ':BC} (hle:ρ.le ρ') {x:Value} (hx:∀ q,oi.dst=some q->A1 ρ' (Bm (AT q) (Ts (i+1))) x):Ju ops Ts listed' (a.put oi.dst x) ρ':=by
 intro q h5
 have Lo:i<ops.size:=(Array.getElem?_eq_some_iff.1 hi).1
 by_cases hdq:oi.dst=some q
 ·refine⟨i+1,by omega,.inr ⟨i,oi,rfl,hi,hdq⟩,fun j o hj hdj=>?_,?_⟩
  ·rw[hl]
   by_cases hji:j=i
   ·subst hji;constructor
    ·intro _;exact .inr rfl
    ·intro _;omega
   ·have:=RB hd hc hi hni hr (.inr hdq) hj hdj hji
    constructor
    ·intro h;exact .inl (this.1 (by omega))
    ·rintro(h|h)
     ·have:=this.2 h;omega
     ·exact absurd h hji
  ·have hqn:=((hs i oi hi).1 q hdq).1
   have:((a.put oi.dst x).tmps.getD q undef)=x:=by rw[hdq];simp[Act.put,hsz,hqn]
   rw[this];exact hx q hdq
 ·obtain⟨m,hm,hm0,hw,hv⟩:=I q h5
  refine⟨m,hm,hm0,fun j o hj hdj=>?_,?_⟩
  ·rw[hl,hw j o hj hdj]
   constructor
   ·intro h;exact .inl h
   ·rintro(h|h)
    ·exact h
    ·subst h;rw[hi]at hj;cases hj;exact absurd hdj hdq
  ·have:((a.put oi.dst x).tmps.getD q undef)=a.tmps.getD q undef:=by
    cases hdst:oi.dst with
    |none=>rfl
    |some d=>
     simp only[Act.put,Array.getD_eq_getD_getElem?,Array.getElem?_setIfInBounds]
     rw[if_neg (fun e=>hdq (by rw[hdst,e]))]
   rw[this];exact A1.up hle _ _ hv
/--those of 'lo' stand in one row;all others leave memory alone,and make the same at each heap at which they may be done -/
theorem ABU (hd:Bi ops.toList=true) {Hs:Nat->H} {lo:Nat->Prop} (hs:iD nt ops Ts) (hch:∀ i j,lo i->lo j->i<j->j<ops.size->Reach ops.toList j i)
 (hlo:∀ (i:Nat) o,lo i->ops[i]? =some o->BI P nt ops i o true (Ts i) (Ts (i+1)) (Hs i) (Hs (i+1))) (hsm:∀ i,i<ops.size->¬lo i->Hs (i+1)=Hs i)
 (hqt:∀ (i:Nat) o,¬lo i->ops[i]? =some o->(∃ g g',BI P nt ops i o true (Ts i) (Ts (i+1)) g g')/\(still P o.op=true\/∀ c,c<=ops.size->(∀ k,lo k->Reach ops.toList i k->k<c)->(∀ k,lo k->k<c->¬Reach ops.toList k i)->BI P nt ops i o true (Ts i) (Ts (i+1)) (Hs c) (Hs c)))
 {ρ0:BC} {w0:World} {Q:Exit->Act->World->Prop} (hQ:∀ ρ a w,Ext (Hs 0).floor ρ0 ρ->CS ρ nt (Ts ops.size) a->A8 ρ (Hs ops.size) w w0->Q .normal a w):
 ∀ (fuel:Nat) (listed:Array Bool) (a:Act) (w:World) (ρ:BC),listed.size=ops.size->left ops.size listed<=fuel->Ez ops.toList listed->a.tmps.size=nt->a.defers=[]->Ext (Hs 0).floor ρ0 ρ->Ju ops Ts listed a ρ->(∃ c,c<=ops.size/\(∀ k,k<ops.size->lo k->(Cd listed k↔k<c))/\A8 ρ (Hs c) w w0)->
  wpAny P .any ops Q fuel listed a w:=by
 have hup:EV 0 ops.toList=true:=by simp only[Bi,Bool.and_eq_true]at hd;exact hd.1
 have same:∀ d c,c<=d->d<=ops.size->(∀ k,c<=k->k<d->¬lo k)->Hs d=Hs c:=by
  intro d
  induction d with
  |zero=>intro c h1 _ _;rw[Nat.le_zero.1 h1]
  |succ d ih=>
   intro c h1 h2 h3
   by_cases e:c=d+1
   ·rw[e]
   ·rw[hsm d (by omega) (h3 d (by omega) (by omega))]
    exact ih c (by omega) (by omega) fun k k1 k2=>h3 k k1 (by omega)
 have Kw:∀ c,c<=ops.size->(Hs c).floor=(Hs 0).floor:=by
  intro c
  induction c with
  |zero=>intro _;rfl
  |succ c ih=>
   intro hc
   rw[<-ih (by omega)]
   by_cases hl:lo c
   ·obtain⟨v,g,_,e2,_,e4,_⟩:=(hlo c _ hl (Array.getElem?_eq_getElem (show c<ops.size by omega))).ex
    simp only[if_true]at e2 e4
    rw[e4];exact e2.1
   ·rw[hsm c (by omega) hl]
 have done:∀ {listed:Array Bool} {a:Act} {w:World} {ρ:BC},(∀ i,i<ops.size->Cd listed i)->a.tmps.size=nt->a.defers=[]->Ext (Hs 0).floor ρ0 ρ->Ju ops Ts listed a ρ->(∃ c,c<=ops.size/\(∀ k,k<ops.size->lo k->(Cd listed k↔k<c))/\A8 ρ (Hs c) w w0)->Q .normal a w:=fun {listed a w ρ} hall hsz hdf hE I hp=>by
  obtain⟨c,c1,c2,c3⟩:=hp
  refine hQ ρ a w hE ⟨hdf,hsz,fun q h5=>?_⟩ (by rw[same ops.size c c1 (Nat.le_refl _) fun k k1 k2 hl=>by have:=(c2 k k2 hl).1 (hall k k2);omega];exact c3)
  obtain⟨m,hm,hm0,hw,hv⟩:=I q h5
  rw[J0 hs h5 hm (Nat.le_refl _) fun j o hj hdj h1 h2=>by
   have:=(hw j o hj hdj).2 (hall j h2)
   omega]
  exact hv
 intro fuel
 induction fuel with
 |zero=>
  intro listed a w ρ hsz hlf hc ha hdf hE I hp
  have hall:∀ i,i<ops.size->Cd listed i:=by
   intro i hi
   have h0:(List.range ops.size).filter (fun i=>!listed.getD i false)=[]:=List.eq_nil_of_length_eq_zero (by unfold left at hlf;omega)
   have:=List.filter_eq_nil_iff.1 h0 i (List.mem_range.2 hi)
   unfold Cd
   simpa using this
  refine⟨?_,done hall ha hdf hE I hp⟩
  rw[List.eq_nil_iff_forall_not_mem]
  intro j hj
  obtain⟨hj1,o,hj2,_⟩:=mem_ready.1 hj
  have hjN:j<ops.size:=(Array.getElem?_eq_some_iff.1 hj2).1
  have:=hall j hjN
  unfold Cd at this
  have hjl:j<listed.size:=by omega
  simp[hjl]at this hj1
  rw[this]at hj1;cases hj1
 |succ fuel ih=>
  intro listed a w ρ hsz hlf hc ha hdf hE I hp
  constructor
  ·intro hready
   by_cases hall:∀ i,i<ops.size->Cd listed i
   ·exact done hall ha hdf hE I hp
   ·exfalso
    have hex:∃ i,i<ops.size/\¬Cd listed i:=by
     refine Classical.byContradiction fun h=>hall fun i hi=>Classical.byContradiction fun h'=>h ⟨i,hi,h'⟩
    have hleast:∃ i,(i<ops.size/\¬Cd listed i)/\∀ j,j<i->¬(j<ops.size/\¬Cd listed j):=by
     obtain⟨i,hi⟩:=hex
     induction i using Nat.strongRecOn with
     |_ i ihh=>
      by_cases h:∃ j,j<i/\(j<ops.size/\¬Cd listed j)
      ·obtain⟨j,hj,hj'⟩:=h
       exact ihh j hj hj'
      ·exact⟨i,hi,fun j hj h'=>h ⟨j,hj,h'⟩⟩
    obtain⟨i,⟨hi1,hi2⟩,hi3⟩:=hleast
    have hio:ops[i]? =some (ops[i]'hi1):=Array.getElem?_eq_getElem _
    have:i∈Region.ready .any ops listed:=by
     rw[mem_ready]
     refine⟨?_,_,hio,fun e he hb=>?_⟩
     ·have hil:i<listed.size:=by omega
      unfold Cd at hi2
      simp[hil]at hi2⊢
      exact hi2
     ·have hlt:=Er ops.toList 0 hup i _ ((Array.getElem?_toList (xs:=ops) (i:=i)).trans hio) e (by simpa using he) hb
      have:=Classical.byContradiction fun h=>hi3 e.on (by omega) ⟨by omega,h⟩
      exact this
    rw[hready]at this;cases this
  ·intro i hi
   obtain⟨hi1,o,hi2,hi3⟩:=mem_ready.1 hi
   have Lo:i<ops.size:=(Array.getElem?_eq_some_iff.1 hi2).1
   have hil:i<listed.size:=by omega
   have hni:¬Cd listed i:=by
    unfold Cd
    simp[hil]at hi1⊢
    exact hi1
   have hi2':ops.toList[i]? =some o:=(Array.getElem?_toList (xs:=ops) (i:=i)).trans hi2
   have hr:∀ e∈o.after.toList,Region.binds .any e=true->Cd listed e.on:=fun e he hb=>hi3 e (by simpa using he) hb
   have hl:∀ j,Cd (listed.setIfInBounds i true) j↔(Cd listed j\/j=i):=by
    intro j
    unfold Cd
    rw[Array.getD_eq_getD_getElem?,Array.getD_eq_getD_getElem?,Array.getElem?_setIfInBounds]
    by_cases hji:i=j
    ·subst hji;simp[hil]
    ·rw[if_neg hji]
     constructor
     ·intro h;exact .inl h
     ·rintro(h|h)
      ·exact h
      ·exact absurd h.symm hji
   have hdfx:∀ x,(a.put o.dst x).defers=[]:=fun x=>by cases o.dst<;>exact hdf
   have hszx:∀ x,(a.put o.dst x).tmps.size=nt:=fun x=>by cases o.dst<;>simp[Act.put,ha]
   have hlook:=mn hd hs hc ha I hi2 hni hr
   have hlf':left ops.size (listed.setIfInBounds i true)<=fuel:=by
    have:left ops.size (listed.setIfInBounds i true)<left ops.size listed:=by
     unfold left
     refine GY _ _ _ (fun x _ hx=>?_) ⟨i,List.mem_range.2 Lo,?_,?_⟩
     ·have:=hl x
      unfold Cd at this
      cases hx1:listed.getD x false with
      |false=>rfl
      |true=>rw[this.2 (.inl hx1)]at hx;exact hx
     ·unfold Cd at hni
      simpa using hni
     ·have:=(hl i).2 (.inr rfl)
      unfold Cd at this
      rw[this];rfl
    omega
   have hc':Ez ops.toList (listed.setIfInBounds i true):=by
    intro j oj hj hjin e he hb
    rw[hl]at hjin⊢
    left
    rcases hjin with h|h
    ·exact hc j oj hj h e he hb
    ·subst h
     rw[hj]at hi2';cases hi2'
     exact hr e he hb
   have reach:∀ j,Reach ops.toList i j->Cd listed j:=fun j hR=>hR.Tc hc fun o' ho e he hb=>by rw[hi2']at ho;cases ho;exact hr e he hb
   obtain⟨c,c1,c2,c3⟩:=hp
   --the step,whichever it is
   have step:∀ (g g':H),BI P nt ops i o true (Ts i) (Ts (i+1)) g g'->g.floor=(Hs 0).floor->A8 ρ g w w0->(∀ ρ' w',A8 ρ' g' w' w0->∃ c,c<=ops.size/\(∀ k,k<ops.size->lo k->(Cd (listed.setIfInBounds i true) k↔k<c))/\A8 ρ' (Hs c) w' w0)->wpOp P ops Q i (wpAny P .any ops Q fuel (listed.setIfInBounds i true)) a w:=fun g g' S hfl R hAt=>by
    obtain⟨v,g2,e1,e2,e3,e4,e5,e6⟩:=S.ex
    simp only[if_true]at e2 e4 e5
    refine e5 ρ a w w0 _ Q hlook R fun ρ' x w' l1 l2 l3=>?_
    rw[<-e4]at l3
    refine ih _ _ w' ρ' (by simpa using hsz) hlf' hc' (hszx x) (hdfx x) (hE.trans (by rw[<-hfl];exact l1)) (rU hd hs hc ha I hi2 hni hr hl l1.1 fun q hq=>by rw[e1 q hq];exact l2) (hAt ρ' w' l3)
   by_cases hli:lo i
   ·have hci:c<=i:=Nat.le_of_not_lt fun h=>hni ((c2 i Lo hli).2 h)
    have hno:∀ k,c<=k->k<i->¬lo k:=fun k k1 k2 hk=>by
     have:=(c2 k (by omega) hk).1 (reach k (hch k i hk hli k2 Lo))
     omega
    have e:=same i c hci (by omega) hno
    refine step (Hs i) (Hs (i+1)) (hlo i o hli hi2) (Kw i (by omega)) (by rw[e];exact c3) fun ρ' w' R=>⟨i+1,by omega,fun k k1 k2=>?_,R⟩
    rw[hl,c2 k k1 k2]
    constructor
    ·rintro(h|h)<;>omega
    ·intro h
     by_cases e2:k=i
     ·exact .inr e2
     ·exact .inl (Nat.lt_of_not_le fun h3=>hno k h3 (by omega) k2)
   ·have hc2:∀ k,k<ops.size->lo k->(Cd (listed.setIfInBounds i true) k↔k<c):=fun k k1 k2=>by
     rw[hl,c2 k k1 k2]
     exact⟨fun h=>h.resolve_right fun e=>hli (e▸k2),.inl⟩
    obtain⟨⟨g,g',S⟩,hh⟩:=hqt i o hli hi2
    rcases hh with hst|hh
    ·obtain⟨v,g2,e1,e2,e3,e4,e5,e6⟩:=S.ex
     exact e6 hst ρ a w _ Q hlook fun x hx=>ih _ _ w ρ (by simpa using hsz) hlf' hc' (hszx x) (hdfx x) hE (rU hd hs hc ha I hi2 hni hr hl (BC.le_refl ρ) fun q hq=>by rw[e1 q hq];exact hx) ⟨c,c1,hc2,c3⟩
    ·refine step (Hs c) (Hs c) (hh c c1 (fun k k1 k2=>?_) fun k k1 k2 k3=>?_) (Kw c c1) c3 fun ρ' w' R=>⟨c,c1,hc2,R⟩
     ·have hkl:=reach k k2
      have hkN:k<ops.size:=by
       have:=k2.lt hup;omega
      exact(c2 k hkN k1).1 hkl
     ·have hkl:=(c2 k (by omega) k1).2 k2
      exact hni (k3.Tc hc fun o' ho e he hb=>hc k o' ho hkl e he hb)
/--such a region,from its beginning on -/
theorem JZ (hm:P.follows .mixedOrders=true) (hd:Bi ops.toList=true) {Hs:Nat->H} {lo:Nat->Prop} (hs:iD nt ops Ts) (hch:∀ i j,lo i->lo j->i<j->j<ops.size->Reach ops.toList j i)
 (hlo:∀ (i:Nat) o,lo i->ops[i]? =some o->BI P nt ops i o true (Ts i) (Ts (i+1)) (Hs i) (Hs (i+1))) (hsm:∀ i,i<ops.size->¬lo i->Hs (i+1)=Hs i)
 (hqt:∀ (i:Nat) o,¬lo i->ops[i]? =some o->(∃ g g',BI P nt ops i o true (Ts i) (Ts (i+1)) g g')/\(still P o.op=true\/∀ c,c<=ops.size->(∀ k,lo k->Reach ops.toList i k->k<c)->(∀ k,lo k->k<c->¬Reach ops.toList k i)->BI P nt ops i o true (Ts i) (Ts (i+1)) (Hs c) (Hs c))):
 Ax (Hs 0) (Hs ops.size)/\B.val (Hs 0).next<=B.val (Hs ops.size).next/\∀ ρ a w w0 (id:Nat) (Q:Exit->Act->World->Prop),CS ρ nt (Ts 0) a->A8 ρ (Hs 0) w w0->(∀ ρ' a' w',Ext (Hs 0).floor ρ ρ'->CS ρ' nt (Ts ops.size) a'->A8 ρ' (Hs ops.size) w' w0->Q .normal a' w')->(Code.region id ops true).wp P Q a w:=by
 have kk:∀ c,c<=ops.size->Ax (Hs 0) (Hs c)/\B.val (Hs 0).next<=B.val (Hs c).next:=by
  intro c
  induction c with
  |zero=>intro _;exact⟨Ax.refl _,Nat.le_refl _⟩
  |succ c ih=>
   intro hc
   obtain⟨k1,k2⟩:=ih (by omega)
   by_cases hl:lo c
   ·obtain⟨v,g,_,e2,e3,e4,_⟩:=(hlo c _ hl (Array.getElem?_eq_getElem (show c<ops.size by omega))).ex
    simp only[if_true]at e2 e4
    rw[<-e4]at e2 e3
    exact⟨Ax.trans k1 k2 e2,Nat.le_trans k2 e3⟩
   ·rw[hsm c (by omega) hl];exact⟨k1,k2⟩
 obtain⟨k1,k2⟩:=kk ops.size (Nat.le_refl _)
 refine⟨k1,k2,fun ρ a w w0 id Q A R hQ=>wp_region_any hm ?_⟩
 have hno:∀ j,¬Cd (Array.replicate ops.size false) j:=by
  intro j;unfold Cd
  by_cases hj:j<ops.size<;>simp[hj]
 refine ABU hd (Hs:=Hs) (lo:=lo) hs hch hlo hsm hqt (ρ0:=ρ) (w0:=w0) (fun ρ' a' w' q1 q2 q3=>hQ ρ' a' w' q1 q2 q3) ops.size _ a _ ρ (by simp) (by unfold left;exact Nat.le_trans (List.length_filter_le _ _) (by simp)) ?_ A.size A.defers (Ext.refl _ _) ?_ ⟨0,Nat.zero_le _,fun k _ _=>⟨fun h=>absurd h (hno k),fun h=>absurd h (Nat.not_lt_zero _)⟩,R.dr _⟩
 ·intro j o hj hin;exact absurd hin (hno j)
 ·intro q h5
  exact⟨0,Nat.zero_le _,.inl rfl,fun j o hj hdj=>⟨fun h=>by omega,fun hin=>absurd hin (hno j)⟩,A.slot q h5⟩
end
section
variable {P:Program}
theorem Gq {bars:Nat->Bool} {nt:Nat} {all:List Oper} {cop:Op->CR}:∀ {X:List CO} {l:List Oper} {n:Nat} {Y:List CO},Ac bars P nt all cop n l=X++Y->
 ∃ lx ly,l=lx++ly/\Ac bars P nt all cop n lx=X/\Ac bars P nt all cop (n+lx.length) ly=Y:=by
 intro X
 induction X with
 |nil=>intro l n Y h;exact⟨[],l,rfl,rfl,h⟩
 |cons p X ih=>
  intro l n Y h
  match l,h with
  |[],h=>cases h
  |o::l,h=>
   have h1:=(List.cons.inj h).1
   obtain⟨lx,ly,e1,e2,e3⟩:=ih (List.cons.inj h).2
   refine⟨o::lx,ly,by rw[e1];rfl,by show _::Ac bars P nt all cop (n+1) lx=_;rw[e2,h1],?_⟩
   rw[<-e3,show n+(o::lx).length=n+1+lx.length by simp;omega]
theorem FM {bars:Nat->Bool} {nt:Nat} {all:List Oper} {cop:Op->CR} {l:List Oper} {n:Nat} {A:CO} {Y:List CO} (h:Ac bars P nt all cop n l=A::Y):
 ∃ o l',l=o::l'/\A=⟨BK nt all o.guard,C0 nt o.dst,bars n,cop o.op⟩/\Ac bars P nt all cop (n+1) l'=Y:=by
 match l,h with
 |[],h=>cases h
 |o::l,h=>exact⟨o,l,rfl,(List.cons.inj h).1.symm,(List.cons.inj h).2⟩
/--all but two leave memory alone;the second one comes behind all that touch it,or ahead of them -/
theorem Va (hm:P.follows .mixedOrders=true) {nt:Nat} {ops:Array Oper} {Ts:Nat->F} (hd:Bi ops.toList=true) {n p:Nat} (hnp:n<p) (hp:p<ops.size) {h h2 h3:H} (hbar:CA P ops.toList (CI ops.toList []) p=true)
 (hQ0:∀ (i:Nat) o,i<p->i≠n->ops[i]? =some o->BI P nt ops i o true (Ts i) (Ts (i+1)) h h/\BI P nt ops i o true (Ts i) (Ts (i+1)) h2 h2)
 (hR0:∀ (i:Nat) o,p<i->ops[i]? =some o->BI P nt ops i o true (Ts i) (Ts (i+1)) h3 h3)
 (hA:∀ o,ops[n]? =some o->BI P nt ops n o true (Ts n) (Ts (n+1)) h h2) (hB:∀ o,ops[p]? =some o->BI P nt ops p o true (Ts p) (Ts (p+1)) h2 h3):
 Ax h h3/\B.val h.next<=B.val h3.next/\∀ ρ a w w0 (id:Nat) (Q:Exit->Act->World->Prop),CS ρ nt (Ts 0) a->A8 ρ h w w0->(∀ ρ' a' w',Ext h.floor ρ ρ'->CS ρ' nt (Ts ops.size) a'->A8 ρ' h3 w' w0->Q .normal a' w')->(Code.region id ops true).wp P Q a w:=by
 have hup:EV 0 ops.toList=true:=by simp only[Bi,Bool.and_eq_true]at hd;exact hd.1
 have hbr:∀ (j:Nat) o,j≠p->ops[j]? =some o->still P o.op=false->(j<p->Reach ops.toList p j)/\(p<j->Reach ops.toList j p):=fun j o hj ho hst=>by
  rcases Jp hbar ((Array.getElem?_toList (xs:=ops) (i:=j)).trans ho) hst (Ne.symm hj)with h|h
  ·have:=h.lt hup;exact⟨fun _=>by omega,fun _=>h⟩
  ·have:=h.lt hup;exact⟨fun _=>h,fun _=>by omega⟩
 have ha:ops[n]? =some (ops[n]'(by omega)):=Array.getElem?_eq_getElem _
 let Hs:Nat->H:=fun i=>if i<=n then h else if i<=p then h2 else h3
 have V0:∀ i,i<=n->Hs i=h:=fun i hi=>if_pos hi
 have V1:∀ i,n<i->i<=p->Hs i=h2:=fun i h1 h3=>by
  show(if _ then _ else _)=_
  rw[if_neg (by omega),if_pos h3]
 have V2:∀ i,p<i->Hs i=h3:=fun i h1=>by
  show(if _ then _ else _)=_
  rw[if_neg (by omega),if_neg (by omega)]
 have hs:iD nt ops Ts:=fun i o ho=>by
  have S:∃ g g',BI P nt ops i o true (Ts i) (Ts (i+1)) g g':=by
   by_cases e:i=n
   ·subst e;exact⟨_,_,hA o ho⟩
   ·rcases Nat.lt_trichotomy i p with h1|h1|h1
    ·exact⟨_,_,(hQ0 i o h1 e ho).1⟩
    ·subst h1;exact⟨_,_,hB o ho⟩
    ·exact⟨_,_,hR0 i o h1 ho⟩
  obtain⟨g,g',S⟩:=S
  exact⟨S.dst,S.rest⟩
 have R:=JZ (nt:=nt) (ops:=ops) (Ts:=Ts) (Hs:=Hs) (lo:=fun k=>k=p\/(k=n/\∀ o,ops[k]? =some o->still P o.op=false)) hm hd hs
  (fun i j hi hj hij hjN=>by
    rcases hi with rfl|⟨rfl,hi⟩
    ·rcases hj with rfl|⟨rfl,_⟩<;>omega
    ·rcases hj with rfl|⟨rfl,_⟩
     ·exact(hbr _ _ (by omega) ha (hi _ ha)).1 hnp
     ·omega)
  (fun i o hi ho=>by
    rcases hi with rfl|⟨rfl,_⟩
    ·rw[V1 _ hnp (Nat.le_refl _),V2 _ (by omega)];exact hB o ho
    ·rw[V0 _ (Nat.le_refl _),V1 _ (by omega) (by omega)];exact hA o ho)
  (fun i hi hl=>by
    by_cases h1:i=n
    ·subst h1
     rw[V0 _ (Nat.le_refl _),V1 _ (by omega) (by omega)]
     cases hst:still P (ops[i]'(by omega)).op with
     |true=>exact(hA _ ha).calm hst
     |false=>exact absurd (.inr ⟨rfl,fun o ho=>by rw[ha]at ho;cases ho;exact hst⟩) hl
    ·by_cases h2:i=p
     ·exact absurd (.inl h2) hl
     ·by_cases h3:i<n
      ·rw[V0 _ (by omega),V0 _ (by omega)]
      ·by_cases h4:i<p
       ·rw[V1 _ (by omega) (by omega),V1 _ (by omega) (by omega)]
       ·rw[V2 _ (by omega),V2 _ (by omega)])
  (fun i o hl ho=>by
    have Lo:i<ops.size:=(Array.getElem?_eq_some_iff.1 ho).1
    by_cases h1:i=n
    ·subst h1
     refine⟨⟨_,_,hA o ho⟩,.inl ?_⟩
     cases hst:still P o.op with
     |true=>rfl
     |false=>exact absurd (.inr ⟨rfl,fun o' ho'=>by rw[ho]at ho';cases ho';exact hst⟩) hl
    ·have h2:i≠p:=fun e=>hl (.inl e)
     cases hst:still P o.op with
     |true=>
      refine⟨?_,.inl rfl⟩
      by_cases h4:i<p
      ·exact⟨_,_,(hQ0 i o h4 h1 ho).1⟩
      ·exact⟨_,_,hR0 i o (by omega) ho⟩
     |false=>
      obtain⟨r1,r2⟩:=hbr i o h2 ho hst
      by_cases h4:i<p
      ·obtain⟨x1,x2⟩:=hQ0 i o h4 h1 ho
       refine⟨⟨_,_,x1⟩,.inr fun c c1 c2 c3=>?_⟩
       have hcp:c<=p:=Nat.le_of_not_lt fun h=>c3 p (.inl rfl) h (r1 h4)
       by_cases h5:c<=n
       ·rw[V0 _ h5];exact x1
       ·rw[V1 _ (by omega) hcp];exact x2
      ·have x1:=hR0 i o (by omega) ho
       refine⟨⟨_,_,x1⟩,.inr fun c c1 c2 c3=>?_⟩
       rw[V2 _ (c2 p (.inl rfl) (r2 (by omega)))];exact x1)
 rw[V0 0 (Nat.zero_le _),V2 ops.size hp]at R
 exact R
theorem PT {x y:V} (h:Vp x y=true):x=y:=by
 cases x with
 |b x=>
  obtain⟨z,rfl,h⟩:=H5 (show vB y (fun y=>qk x y)=true from h)
  cases x<;>cases z<;>first|rfl|cases h
 |i kd n=>
  obtain⟨kd',n',rfl,h⟩:=Cy (show vI y (fun kd' n'=>At (CE kd kd') fun _=>Jv n n')=true from h)
  obtain⟨h1,h⟩:=AW h
  rw[EN]at h
  rw[Dn h1,eq_of_beq h]
 |s len n=>
  obtain⟨len',n',rfl,h⟩:=EH (show vS y (fun len' n'=>At (Nat.beq len len') fun _=>Nat.beq n n')=true from h)
  obtain⟨h1,h⟩:=AW h
  rw[Nat.eq_of_beq_eq_true h1,Nat.eq_of_beq_eq_true h]
 |p id g off fin=>
  obtain⟨id',g',off',fin',rfl,h⟩:=Em (show vP y (fun id' g' off' fin'=>At (Nat.beq (B.val id) (B.val id')) fun _=>At (Nat.beq g g') fun _=>At (Nat.beq off off') fun _=>Nat.beq fin fin')=true from h)
  obtain⟨h1,h⟩:=AW h
  obtain⟨h2,h⟩:=AW h
  obtain⟨h3,h⟩:=AW h
  rw[B.val_inj (Nat.eq_of_beq_eq_true h1),Nat.eq_of_beq_eq_true h2,Nat.eq_of_beq_eq_true h3,Nat.eq_of_beq_eq_true h]
 |p0=>
  rcases Jd (show SV y (fun _=>true) (fun _ _ _ _=>false)=true from h)with⟨rfl,h⟩|⟨_,_,_,_,rfl,h⟩
  ·rfl
  ·cases h
 |l0=>
  rcases ET (show vL y (fun _=>true) (fun _ _ _ _ _ _=>false)=true from h)with⟨rfl,h⟩|⟨_,_,_,_,_,_,rfl,h⟩
  ·rfl
  ·cases h
 |l id g off len fin cap=>
  rcases ET (show vL y (fun _=>false) (fun id' g' off' len' fin' cap'=>At (Nat.beq (B.val id) (B.val id')) fun _=>At (Nat.beq g g') fun _=>At (Nat.beq off off') fun _=>At (Nat.beq len len') fun _=>At (Nat.beq fin fin') fun _=>eqO cap cap')=true from h)with⟨rfl,h⟩|⟨id',g',off',len',fin',cap',rfl,h⟩
  ·cases h
  ·obtain⟨h1,h⟩:=AW h
   obtain⟨h2,h⟩:=AW h
   obtain⟨h3,h⟩:=AW h
   obtain⟨h4,h⟩:=AW h
   obtain⟨h5,h⟩:=AW h
   have h6:cap=cap':=by
    cases cap<;>cases cap'<;>first|rfl|cases h|exact congrArg some (Nat.eq_of_beq_eq_true h)
   rw[B.val_inj (Nat.eq_of_beq_eq_true h1),Nat.eq_of_beq_eq_true h2,Nat.eq_of_beq_eq_true h3,Nat.eq_of_beq_eq_true h4,Nat.eq_of_beq_eq_true h5,h6]
 |_=>exact Bool.noConfusion h
theorem PA:∀ {xs ys:List V},Uk xs ys=true->xs=ys
 |[],[],_=>rfl
 |[],_::_,h=>Bool.noConfusion h
 |_::_,[],h=>Bool.noConfusion h
 |x::xs,y::ys,h=>by
  obtain⟨h1,h2⟩:=AW (show At (Vp x y) (fun _=>Uk xs ys)=true from h)
  rw[PT h1,PA h2]
theorem dI {x y:V} (h:zu x y=true):x=y:=by
 cases x with
 |a cs=>
  obtain⟨cs',rfl,h⟩:=K4 (show vA y (fun cs'=>Uk cs cs')=true from h)
  rw[PA h]
 |_=>exact PT h
theorem O5 {v1 v2:V} {h1 h2:H} (e:∀ k:V->H->Bool,k v1 h1=k v2 h2):v2=v1/\h2=h1:=by
 have:=e fun t h=>@decide (t=v1/\h=h1) (Classical.propDecidable _)
 simp at this
 exact this
theorem TL {t1 t2:F} {h1 h2:H} (e:∀ k:F->H->Bool,k t1 h1=k t2 h2):t2=t1/\h2=h1:=by
 have:=e fun t h=>@decide (t=t1/\h=h1) (Classical.propDecidable _)
 simp at this
 exact this
theorem Hk {o:Oper} (hq:quiet P o.op=true) {cf:Bn} (hcf:Fg P cf) {t:F} {h:H} {v:V} {h':H} (e:∀ k',runK (Ad P o.op) cf t h k'=k' v h'):h'=h:=by
 have base:still P o.op=true->h'=h:=fun hs=>by
  obtain⟨v2,h2,r1,r2,r3,r4,r5⟩:=D7 P o cf hcf t h _ (e fun _ _=>true)
  obtain⟨_,rfl⟩:=O5 fun k=>(e k).symm.trans (r1 k)
  exact(r5 hs).1
 cases ho:o.op with
 |load el x=>
  rw[ho]at e
  have e1:∀ k',runK (EE (As P el) (AN x)) cf t h k'=k' v h':=e
  have key:∀ (r:CG),(∃ s,r=AR s (AN x))\/r=AK (AN x)\/r=Ay->(∀ k',r cf t h k'=k' v h')->h'=h:=by
   intro r hr e2
   rcases hr with⟨s,rfl⟩|rfl|rfl
   ·have h1:=e2 fun _ _=>true
    simp only[AR,AQ]at h1
    obtain⟨id,g,off,fin,hv,h1⟩:=Em h1
    obtain⟨vs,n1,_⟩:=EI h1
    refine(O5 (v1:=.a vs) (v2:=v) (h1:=h) fun k=>?_).2
    rw[<-e2 k]
    simp only[AR,AQ,hv,Hu,n1]
   ·have h1:=e2 fun _ _=>true
    simp only[AK,AQ]at h1
    obtain⟨id,g,off,fin,hv,h1⟩:=Em h1
    obtain⟨vs,n1,_⟩:=Ha h1
    refine(O5 (v1:=vs) (v2:=v) (h1:=h) fun k=>?_).2
    rw[<-e2 k]
    simp only[AK,AQ,hv,Hu,n1]
   ·have h1:=e2 fun _ _=>true
    cases h1
  refine key _ ?_ e1
  unfold EE
  split
  ·split
   ·exact .inl ⟨_,rfl⟩
   ·exact .inr (.inl rfl)
  ·exact .inr (.inr rfl)
 |nilCheck x=>
  rw[ho]at e
  have e1:∀ k',AZ (AN x) cf t h k'=k' v h':=e
  have h1:=e1 fun _ _=>true
  simp only[AZ,AQ]at h1
  obtain⟨id,g,off,fin,hv,h1⟩:=Em h1
  refine(O5 (v1:=.p id g off fin) (v2:=v) (h1:=h) fun k=>?_).2
  rw[<-e1 k]
  simp only[AZ,AQ,hv,Hu]
 |_=>exact base (by rw[ho]at hq⊢;exact hq)
theorem ME (o:CO) (cf:Bn) (ih:F->H->(F->H->Bool)->Bool) (t:F) (h:H) (k:F->H->Bool):Lw o cf ih t h k=Tb (.mk o.guard o.dst true o.run) cf ih t h k:=by
 obtain⟨g,d,b,r⟩:=o
 show CZ g t (fun b=>KE b r d cf ih t h k)=CZ g t (fun b=>IS b true r d cf ih t h k)
 congr 1;funext b;cases b<;>rfl
section
variable {cf:Bn} {nt:Nat} {ops:Array Oper}
theorem PF (hcf:Fg P cf) {i:Nat} {o:Oper} (hi:ops[i]? =some o) {b:Bool} {t:F} {h:H} {ih:F->H->(F->H->Bool)->Bool} {k:F->H->Bool} (hk:Lw ⟨BK nt ops.toList o.guard,C0 nt o.dst,b,Ad P o.op⟩ cf ih t h k=true):
 ∃ t' h',(∀ ih' k',Lw ⟨BK nt ops.toList o.guard,C0 nt o.dst,b,Ad P o.op⟩ cf ih' t h k'=ih' t' h' k')/\BI P nt ops i o true t t' h h'/\(quiet P o.op=true->h'=h):=by
 rw[ME]at hk
 have hk':Tb ⟨BK nt ops.toList o.guard,C0 nt o.dst,true,Ad P o.op⟩ cf ih t h k=true:=hk
 have e:∀ ih' k',Tb ⟨BK nt ops.toList o.guard,C0 nt o.dst,true,Ad P o.op⟩ cf ih' t h k'=CZ (BK nt ops.toList o.guard) t fun b=>IS b true (Ad P o.op) (C0 nt o.dst) cf ih' t h k':=fun _ _=>rfl
 rw[e]at hk'
 obtain⟨b2,g1,g2⟩:=Hi hk'
 rw[g1]at hk'
 have fin:∀ t' h',(∀ ih' k',IS b2 true (Ad P o.op) (C0 nt o.dst) cf ih' t h k'=ih' t' h' k')->(quiet P o.op=true->h'=h)->∃ t' h',(∀ ih' k',Lw ⟨BK nt ops.toList o.guard,C0 nt o.dst,b,Ad P o.op⟩ cf ih' t h k'=ih' t' h' k')/\BI P nt ops i o true t t' h h'/\(quiet P o.op=true->h'=h):=fun t' h' q1 q2=>by
  have q3:∀ ih' k',Tb ⟨BK nt ops.toList o.guard,C0 nt o.dst,true,Ad P o.op⟩ cf ih' t h k'=ih' t' h' k':=fun ih' k'=>by rw[e,g1,q1]
  obtain⟨t2,h2,a1,a2⟩:=JT hcf hi (HA:=true) (ih:=fun t h k=>k t h) (k:=fun _ _=>true) (q3 _ _)
  obtain⟨rfl,rfl⟩:=TL fun k=>(q3 (fun t h k=>k t h) k).symm.trans (a1 k)
  exact⟨_,_,fun ih' k'=>by rw[ME];exact q3 ih' k',a2,q2⟩
 cases b2 with
 |false=>
  have hk2:Dd (C0 nt o.dst) (.tu []) t (fun t=>ih t h k)=true:=hk'
  obtain⟨t',p1,_⟩:=Fe hk2
  exact fin t' h (fun ih' k'=>p1 fun t=>ih' t h k') fun _=>rfl
 |true=>
  have hk2:runK (Ad P o.op) cf t h (fun v h=>Dd (C0 nt o.dst) v t fun t=>ih t h k)=true:=hk'
  obtain⟨v,h',r1,r2,r3,r4,r5⟩:=D7 P o cf hcf t h _ hk2
  rw[r1]at hk2
  obtain⟨t',p1,_⟩:=Fe hk2
  exact fin t' h' (fun ih' k'=>(r1 fun v h=>Dd (C0 nt o.dst) v t fun t=>ih' t h k').trans (p1 fun t=>ih' t h' k')) fun hq=>Hk hq hcf r1
theorem Pq (hcf:Fg P cf) {i:Nat} {o:Oper} (hi:ops[i]? =some o) (hq:quiet P o.op=true) {b:Bool} {t:F} {h h2:H} {ih:F->H->H->(F->Bool)->Bool} {k:F->Bool} (hk:Jc ⟨BK nt ops.toList o.guard,C0 nt o.dst,b,Ad P o.op⟩ cf ih t h h2 k=true):
 ∃ t',(∀ ih' k',Jc ⟨BK nt ops.toList o.guard,C0 nt o.dst,b,Ad P o.op⟩ cf ih' t h h2 k'=ih' t' h h2 k')/\(∀ ih' k',Lw ⟨BK nt ops.toList o.guard,C0 nt o.dst,b,Ad P o.op⟩ cf ih' t h k'=ih' t' h k')/\
  BI P nt ops i o true t t' h h/\BI P nt ops i o true t t' h2 h2:=by
 have e:∀ ih' k',Jc ⟨BK nt ops.toList o.guard,C0 nt o.dst,b,Ad P o.op⟩ cf ih' t h h2 k'=CZ (BK nt ops.toList o.guard) t fun b=>TC b (Ad P o.op) (C0 nt o.dst) cf ih' t h h2 k':=fun _ _=>rfl
 have eo:∀ (g:H) ih' k',Lw ⟨BK nt ops.toList o.guard,C0 nt o.dst,b,Ad P o.op⟩ cf ih' t g k'=CZ (BK nt ops.toList o.guard) t fun b=>KE b (Ad P o.op) (C0 nt o.dst) cf ih' t g k':=fun _ _ _=>rfl
 rw[e]at hk
 obtain⟨b2,g1,g2⟩:=Hi hk
 rw[g1]at hk
 have one:∀ (g:H) t',(∀ ih' k',KE b2 (Ad P o.op) (C0 nt o.dst) cf ih' t g k'=ih' t' g k')->(∀ ih' k',Lw ⟨BK nt ops.toList o.guard,C0 nt o.dst,b,Ad P o.op⟩ cf ih' t g k'=ih' t' g k')/\BI P nt ops i o true t t' g g:=fun g t' q=>by
  have q3:∀ ih' k',Lw ⟨BK nt ops.toList o.guard,C0 nt o.dst,b,Ad P o.op⟩ cf ih' t g k'=ih' t' g k':=fun ih' k'=>by rw[eo,g1,q]
  obtain⟨t2,h3,a1,a2,a3⟩:=PF hcf hi (ih:=fun t h k=>k t h) (k:=fun _ _=>true) (q3 _ _)
  obtain⟨rfl,rfl⟩:=TL fun k=>(q3 (fun t h k=>k t h) k).symm.trans (a1 (fun t h k=>k t h) k)
  exact⟨q3,a2⟩
 cases b2 with
 |false=>
  have hk2:Dd (C0 nt o.dst) (.tu []) t (fun t=>ih t h h2 k)=true:=hk
  obtain⟨t',p1,_⟩:=Fe hk2
  have q:∀ (g:H) ih' k',KE false (Ad P o.op) (C0 nt o.dst) cf ih' t g k'=ih' t' g k':=fun g ih' k'=>p1 fun t=>ih' t g k'
  obtain⟨x1,x2⟩:=one h t' (q h)
  obtain⟨y1,y2⟩:=one h2 t' (q h2)
  exact⟨t',fun ih' k'=>by rw[e,g1];exact p1 fun t=>ih' t h h2 k',x1,x2,y2⟩
 |true=>
  have hk2:runK (Ad P o.op) cf t h (fun v _=>runK (Ad P o.op) cf t h2 fun v' _=>At (zu v v') fun _=>Dd (C0 nt o.dst) v t fun t=>ih t h h2 k)=true:=hk
  obtain⟨v,h',r1,r2,r3,r4,r5⟩:=D7 P o cf hcf t h _ hk2
  obtain rfl:=Hk hq hcf r1
  rw[r1]at hk2
  obtain⟨v',h2',s1,s2,s3,s4,s5⟩:=D7 P o cf hcf t h2 _ hk2
  obtain rfl:=Hk hq hcf s1
  rw[s1]at hk2
  obtain⟨hv,hk2⟩:=AW hk2
  obtain⟨t',p1,_⟩:=Fe hk2
  obtain rfl:=dI hv
  obtain⟨x1,x2⟩:=one h' t' fun ih' k'=>(r1 _).trans (p1 fun t=>ih' t h' k')
  obtain⟨y1,y2⟩:=one h2' t' fun ih' k'=>(s1 _).trans (p1 fun t=>ih' t h2' k')
  refine⟨t',fun ih' k'=>?_,x1,x2,y2⟩
  rw[e,g1]
  show runK (Ad P o.op) cf t h' (fun v _=>runK (Ad P o.op) cf t h2' fun v' _=>At (zu v v') fun _=>Dd (C0 nt o.dst) v t fun t=>ih' t h' h2' k')=_
  rw[r1,s1,hv,AH]
  exact p1 fun t=>ih' t h' h2' k'
/--all operations,one by one -/
theorem RP (hcf:Fg P cf) (bars:Nat->Bool):∀ (l:List Oper) (n:Nat),ops.toList.drop n=l->∀ (t:F) (h:H) (k:List (F×H)->F->H->Bool),
 M5 cf (Ac bars P nt ops.toList (Ad P) n l) t h k=true->
 ∃ (Ts:Nat->F) (Hs:Nat->H) (L:List (F×H)),Ts n=t/\Hs n=h/\(∀ k',M5 cf (Ac bars P nt ops.toList (Ad P) n l) t h k'=k' L (Ts (n+l.length)) (Hs (n+l.length)))/\(∀ m,m<l.length->L[m]? =some (Ts (n+m+1),Hs (n+m+1)))/\L.length=l.length/\
  ∀ (i:Nat) o,n<=i->ops[i]? =some o->BI P nt ops i o true (Ts i) (Ts (i+1)) (Hs i) (Hs (i+1))/\(quiet P o.op=true->Hs (i+1)=Hs i)/\∀ b ih' k',Lw ⟨BK nt ops.toList o.guard,C0 nt o.dst,b,Ad P o.op⟩ cf ih' (Ts i) (Hs i) k'=ih' (Ts (i+1)) (Hs (i+1)) k':=by
 intro l
 induction l with
 |nil=>
  intro n hl t h k hk
  refine⟨fun _=>t,fun _=>h,[],rfl,rfl,fun _=>rfl,fun m hm=>by simp at hm,rfl,fun i o h1 h2=>?_⟩
  have h3:i<ops.size:=(Array.getElem?_eq_some_iff.1 h2).1
  have:=congrArg List.length hl
  simp at this;omega
 |cons o l ih=>
  intro n hl t h k hk
  have hn:ops[n]? =some o:=by
   have:ops.toList[n]? =some o:=by
    have:=congrArg (fun l=>l[0]?) hl
    simpa using this
   simpa using this
  have e:∀ k',M5 cf (Ac bars P nt ops.toList (Ad P) n (o::l)) t h k'=Lw ⟨BK nt ops.toList o.guard,C0 nt o.dst,bars n,Ad P o.op⟩ cf (fun t1 h1 _=>M5 cf (Ac bars P nt ops.toList (Ad P) (n+1) l) t1 h1 fun l t2 h2=>k' ((t1,h1)::l) t2 h2) t h fun _ _=>true:=fun _=>rfl
  rw[e]at hk
  obtain⟨t1,h1,a1,a2,a3⟩:=PF hcf hn hk
  rw[a1]at hk
  have hl':ops.toList.drop (n+1)=l:=by rw[<-List.drop_drop,hl];rfl
  obtain⟨Ts,Hs,L,b1,b2,b3,b4,b5,b6⟩:=ih (n+1) hl' t1 h1 _ hk
  have e1:n+(o::l).length=n+1+l.length:=by simp;omega
  have e2:∀ m,n<m->¬m=n:=fun m hm=>by omega
  refine⟨fun i=>if i=n then t else Ts i,fun i=>if i=n then h else Hs i,(t1,h1)::L,by simp,by simp,fun k'=>?_,fun m hm=>?_,by simp[b5],fun i oi h1' hi=>?_⟩
  ·rw[e1];simp only[e2 _ (show n<n+1+l.length by omega),if_false];rw[e,a1,b3]
  ·cases m with
   |zero=>simp only[Nat.add_zero,e2 _ (Nat.lt_succ_self n),if_false];rw[b1,b2];rfl
   |succ m=>
    simp only[e2 _ (show n<n+(m+1)+1 by omega),if_false]
    rw[List.getElem?_cons_succ,b4 m (by simpa using hm),show n+(m+1)+1=n+1+m+1 by omega]
  ·by_cases hin:i=n
   ·subst hin
    rw[hn]at hi
    cases hi
    simp only[if_true,e2 _ (Nat.lt_succ_self i),if_false,b1,b2]
    refine⟨a2,a3,fun b ih' k'=>?_⟩
    rw[ME]
    have:=a1 ih' k'
    rw[ME]at this
    exact this
   ·simp only[hin,if_false,e2 _ (show n<i+1 by omega)]
    exact b6 i oi (by omega) hi
theorem Ou (hcf:Fg P cf) {i:Nat} {o:Oper} (hi:ops[i]? =some o) (hq:quiet P o.op=true) {b:Bool} {l:List (F×H)} {ti:F} {h:H}:∀ {js:List Nat} {k:Unit->Bool},
 J5 ⟨BK nt ops.toList o.guard,C0 nt o.dst,b,Ad P o.op⟩ cf l ti h js k=true->
 (∀ k',J5 ⟨BK nt ops.toList o.guard,C0 nt o.dst,b,Ad P o.op⟩ cf l ti h js k'=k' ())/\∀ j∈js,∃ tj hj t',l[j]? =some (tj,hj)/\BI P nt ops i o true ti t' hj hj/\∀ ih' k',Lw ⟨BK nt ops.toList o.guard,C0 nt o.dst,b,Ad P o.op⟩ cf ih' ti h k'=ih' t' h k'
 |[],k,hk=>⟨fun _=>rfl,fun j hj=>by cases hj⟩
 |j::js,k,hk=>by
  have e:∀ k',J5 ⟨BK nt ops.toList o.guard,C0 nt o.dst,b,Ad P o.op⟩ cf l ti h (j::js) k'=CJ l[j]? (fun th=>Prod.rec (fun _ hj=>Jc ⟨BK nt ops.toList o.guard,C0 nt o.dst,b,Ad P o.op⟩ cf (fun t _ _ k=>k t) ti h hj fun _=>J5 ⟨BK nt ops.toList o.guard,C0 nt o.dst,b,Ad P o.op⟩ cf l ti h js k') th):=fun _=>rfl
  rw[e]at hk
  obtain⟨⟨tj,hj⟩,h1,hk⟩:=Bb hk
  have hk:Jc ⟨BK nt ops.toList o.guard,C0 nt o.dst,b,Ad P o.op⟩ cf (fun t _ _ k=>k t) ti h hj (fun _=>J5 ⟨BK nt ops.toList o.guard,C0 nt o.dst,b,Ad P o.op⟩ cf l ti h js k)=true:=hk
  obtain⟨t',a1,a2,a3,a4⟩:=Pq hcf hi hq hk
  rw[a1]at hk
  obtain⟨b1,b2⟩:=Ou hcf hi hq hk
  refine⟨fun k'=>?_,fun q hq'=>?_⟩
  ·rw[e,h1]
   show Jc ⟨BK nt ops.toList o.guard,C0 nt o.dst,b,Ad P o.op⟩ cf (fun t _ _ k=>k t) ti h hj (fun _=>J5 ⟨BK nt ops.toList o.guard,C0 nt o.dst,b,Ad P o.op⟩ cf l ti h js k')=_
   rw[a1,b1]
  ·rcases List.mem_cons.1 hq' with rfl|hq'
   ·exact⟨tj,hj,t',h1,a4,a2⟩
   ·exact b2 q hq'
theorem PN {bars:Nat->Bool} {all:List Oper} {cop:Op->CR}:∀ {l:List Oper} {n i:Nat} {o:Oper},l[i]? =some o->(Ac bars P nt all cop n l)[i]? =some ⟨BK nt all o.guard,C0 nt o.dst,bars (n+i),cop o.op⟩
 |[],_,_,_,h=>by simp at h
 |x::l,n,0,o,h=>by
  obtain rfl:x=o:=by simpa using h
  rfl
 |x::l,n,i+1,o,h=>by
  have:=PN (bars:=bars) (all:=all) (cop:=cop) (l:=l) (n:=n+1) (i:=i) (o:=o) (by simpa using h)
  rw[show n+1+i=n+(i+1)by omega]at this
  exact this
theorem NV (hcf:Fg P cf) (bars:Nat->Bool) {l:List (F×H)}:∀ {cs:List (Nat×List Nat)},(∀ p∈cs,∃ o,ops[p.1]? =some o/\quiet P o.op=true)->∀ {k:Unit->Bool},
 Ix cf (Ac bars P nt ops.toList (Ad P) 0 ops.toList) l cs k=true->
 (∀ k',Ix cf (Ac bars P nt ops.toList (Ad P) 0 ops.toList) l cs k'=k' ())/\∀ p∈cs,∀ o,ops[p.1]? =some o->∃ ti h b,l[p.1]? =some (ti,h)/\∀ j∈p.2,∃ tj hj t',l[j]? =some (tj,hj)/\BI P nt ops p.1 o true ti t' hj hj/\∀ ih' k',Lw ⟨BK nt ops.toList o.guard,C0 nt o.dst,b,Ad P o.op⟩ cf ih' ti h k'=ih' t' h k'
 |[],_,k,hk=>⟨fun _=>rfl,fun p hp=>by cases hp⟩
 |(i,js)::cs,hcs,k,hk=>by
  have e:∀ k',Ix cf (Ac bars P nt ops.toList (Ad P) 0 ops.toList) l ((i,js)::cs) k'=CJ (Ac bars P nt ops.toList (Ad P) 0 ops.toList)[i]? fun o=>CJ l[i]? fun th=>Prod.rec (fun ti hi=>J5 o cf l ti hi js fun _=>Ix cf (Ac bars P nt ops.toList (Ad P) 0 ops.toList) l cs k') th:=fun _=>rfl
  obtain⟨o,ho,hq⟩:=hcs (i,js) (by simp)
  have ho:ops[i]? =some o:=ho
  have hg:=PN (P:=P) (nt:=nt) (bars:=bars) (all:=ops.toList) (cop:=Ad P) (n:=0) ((Array.getElem?_toList (xs:=ops) (i:=i)).trans ho)
  rw[Nat.zero_add]at hg
  rw[e,hg]at hk
  obtain⟨⟨ti,hi⟩,h1,hk⟩:=Bb (show CJ l[i]? (fun th=>Prod.rec (fun ti hi=>J5 ⟨BK nt ops.toList o.guard,C0 nt o.dst,bars i,Ad P o.op⟩ cf l ti hi js fun _=>Ix cf (Ac bars P nt ops.toList (Ad P) 0 ops.toList) l cs k) th)=true from hk)
  have hk:J5 ⟨BK nt ops.toList o.guard,C0 nt o.dst,bars i,Ad P o.op⟩ cf l ti hi js (fun _=>Ix cf (Ac bars P nt ops.toList (Ad P) 0 ops.toList) l cs k)=true:=hk
  obtain⟨a1,a2⟩:=Ou hcf ho hq hk
  rw[a1]at hk
  obtain⟨b1,b2⟩:=NV hcf bars (fun p hp=>hcs p (List.mem_cons_of_mem _ hp)) hk
  refine⟨fun k'=>?_,fun p hp=>?_⟩
  ·rw[e,hg,h1]
   show J5 ⟨BK nt ops.toList o.guard,C0 nt o.dst,bars i,Ad P o.op⟩ cf l ti hi js (fun _=>Ix cf (Ac bars P nt ops.toList (Ad P) 0 ops.toList) l cs k')=_
   rw[a1,b1]
  ·rcases List.mem_cons.1 hp with rfl|hp
   ·intro o' ho'
    have ho':ops[i]? =some o':=ho'
    rw[ho]at ho';cases ho'
    exact⟨ti,hi,bars i,h1,a2⟩
   ·exact b2 p hp
theorem FZ {k:Nat}:∀ {l:List Oper} {n:Nat},k∈Bf P n l↔∃ i o,k=n+i/\l[i]? =some o/\quiet P o.op=false
 |[],n=>by simp[Bf]
 |o::l,n=>by
  have ih:=FZ (k:=k) (l:=l) (n:=n+1)
  have tail:(k∈Bf P (n+1) l)↔∃ i x,k=n+(i+1)/\l[i]? =some x/\quiet P x.op=false:=by
   rw[ih]
   constructor
   ·rintro⟨i,x,h1,h2,h3⟩;exact⟨i,x,by omega,h2,h3⟩
   ·rintro⟨i,x,h1,h2,h3⟩;exact⟨i,x,by omega,h2,h3⟩
  cases hq:quiet P o.op with
  |true=>
   have e:Bf P n (o::l)=Bf P (n+1) l:=by simp only[Bf,hq]
   rw[e,tail]
   constructor
   ·rintro⟨i,x,h1,h2,h3⟩;exact⟨i+1,x,h1,by simpa using h2,h3⟩
   ·rintro⟨i,x,h1,h2,h3⟩
    cases i with
    |zero=>simp at h2;rw[<-h2,hq]at h3;cases h3
    |succ i=>exact⟨i,x,h1,by simpa using h2,h3⟩
  |false=>
   have e:Bf P n (o::l)=n::Bf P (n+1) l:=by simp only[Bf,hq]
   rw[e,List.mem_cons,tail]
   constructor
   ·rintro(rfl|⟨i,x,h1,h2,h3⟩)
    ·exact⟨0,o,by omega,rfl,hq⟩
    ·exact⟨i+1,x,h1,by simpa using h2,h3⟩
   ·rintro⟨i,x,h1,h2,h3⟩
    cases i with
    |zero=>exact .inl (by omega)
    |succ i=>exact .inr ⟨i,x,h1,by simpa using h2,h3⟩
theorem Jr {bs louds:List Nat} {p:Nat×List Nat}:∀ {l:List Oper} {n:Nat},p∈Dw P bs louds n l↔∃ i o,p=(n+i,Ni bs louds (n+i))/\l[i]? =some o/\quiet P o.op=true/\still P o.op=false
 |[],n=>by simp[Dw]
 |o::l,n=>by
  have ih:=Jr (bs:=bs) (louds:=louds) (p:=p) (l:=l) (n:=n+1)
  have tail:(p∈Dw P bs louds (n+1) l)↔∃ i x,p=(n+(i+1),Ni bs louds (n+(i+1)))/\l[i]? =some x/\quiet P x.op=true/\still P x.op=false:=by
   rw[ih]
   constructor
   ·rintro⟨i,x,h1,h2⟩;exact⟨i,x,by rw[h1,show n+1+i=n+(i+1)by omega],h2⟩
   ·rintro⟨i,x,h1,h2⟩;exact⟨i,x,by rw[h1,show n+(i+1)=n+1+i by omega],h2⟩
  cases hq:(quiet P o.op&&!still P o.op)with
  |false=>
   have e:Dw P bs louds n (o::l)=Dw P bs louds (n+1) l:=by simp only[Dw,hq]
   rw[e,tail]
   constructor
   ·rintro⟨i,x,h1,h2⟩;exact⟨i+1,x,h1,by simpa using h2⟩
   ·rintro⟨i,x,h1,h2,h3,h4⟩
    cases i with
    |zero=>simp at h2;subst h2;rw[h3,h4]at hq;cases hq
    |succ i=>exact⟨i,x,h1,by simpa using h2,h3,h4⟩
  |true=>
   have e:Dw P bs louds n (o::l)=(n,Ni bs louds n)::Dw P bs louds (n+1) l:=by simp only[Dw,hq]
   rw[e,List.mem_cons,tail]
   simp only[Bool.and_eq_true,Bool.not_eq_true']at hq
   constructor
   ·rintro(rfl|⟨i,x,h1,h2⟩)
    ·exact⟨0,o,rfl,rfl,hq.1,hq.2⟩
    ·exact⟨i+1,x,h1,by simpa using h2⟩
   ·rintro⟨i,x,h1,h2⟩
    cases i with
    |zero=>exact .inl h1
    |succ i=>exact .inr ⟨i,x,h1,by simpa using h2⟩
theorem IQ {l:List Oper} {j i:Nat} (h:Ij (CI l []) j i=true):Reach l j i:=HW l l [] rfl (fun j i h=>by simp at h) j i h
/--the premises,by what was compiled -/
theorem Ml (hm:P.follows .mixedOrders=true) (hd:Bi ops.toList=true) {ld:List Nat} {cs:List (Nat×List Nat)} (ec:E9 P (CA P ops.toList (CI ops.toList [])) (CI ops.toList []) ops.toList=some (ld,cs)) {Ts:Nat->F} {Hs:Nat->H}
 (hst:∀ (i:Nat) o,ops[i]? =some o->BI P nt ops i o true (Ts i) (Ts (i+1)) (Hs i) (Hs (i+1))/\(quiet P o.op=true->Hs (i+1)=Hs i))
 (hck:∀ p∈cs,∀ o,ops[p.1]? =some o->∀ j∈p.2,BI P nt ops p.1 o true (Ts p.1) (Ts (p.1+1)) (Hs j) (Hs j)):
 Ax (Hs 0) (Hs ops.size)/\B.val (Hs 0).next<=B.val (Hs ops.size).next/\∀ ρ a w w0 (id:Nat) (Q:Exit->Act->World->Prop),CS ρ nt (Ts 0) a->A8 ρ (Hs 0) w w0->(∀ ρ' a' w',Ext (Hs 0).floor ρ ρ'->CS ρ' nt (Ts ops.size) a'->A8 ρ' (Hs ops.size) w' w0->Q .normal a' w')->(Code.region id ops true).wp P Q a w:=by
 unfold E9 at ec
 split at ec
 case h_2=>cases ec
 rename_i hb
 cases ec
 simp only[Bool.and_eq_true]at hb
 have hoq:∀ {i:Nat} {o},ops[i]? =some o↔ops.toList[i]? =some o:=fun {i o}=>by rw[Array.getElem?_toList]
 have hld:∀ {i:Nat} {o},ops[i]? =some o->quiet P o.op=false->i∈Bf P 0 ops.toList:=fun {i o} h1 h2=>FZ.2 ⟨i,o,by omega,hoq.1 h1,h2⟩
 exact JZ (nt:=nt) (ops:=ops) (Ts:=Ts) (Hs:=Hs) (lo:=fun k=>∃ o,ops[k]? =some o/\quiet P o.op=false) hm hd
  (fun i o ho=>⟨(hst i o ho).1.dst,(hst i o ho).1.rest⟩)
  (fun i j ⟨oi,hi,qi⟩ ⟨oj,hj,qj⟩ hij _=>by
    have:=hb.2
    unfold Sw at this
    have:=(List.all_eq_true.1 ((List.all_eq_true.1 this) j (hld hj qj))) i (hld hi qi)
    rw[Bool.or_eq_true]at this
    rcases this with h|h
    ·have:=Nat.le_of_ble_eq_true h;omega
    ·exact IQ h)
  (fun i o _ ho=>(hst i o ho).1)
  (fun i hi hl=>by
    have ho:ops[i]? =some (ops[i]'hi):=Array.getElem?_eq_getElem _
    refine(hst i _ ho).2 ?_
    cases hq:quiet P (ops[i]'hi).op with
    |true=>rfl
    |false=>exact absurd ⟨_,ho,hq⟩ hl)
  (fun i o hl ho=>by
    have hq:quiet P o.op=true:=by
     cases hq:quiet P o.op with
     |true=>rfl
     |false=>exact absurd ⟨_,ho,hq⟩ hl
    have S:=(hst i o ho).1
    refine⟨⟨_,_,S⟩,?_⟩
    cases hst2:still P o.op with
    |true=>exact .inl rfl
    |false=>
     refine .inr fun c hc d1 d2=>?_
     --the last one that is ahead of c
     have hex:∀ c,c<=ops.size->∃ j,(j=0\/∃ m,j=m+1/\m∈Bf P 0 ops.toList)/\j<=c/\Hs c=Hs j/\∀ k,(∃ o,ops[k]? =some o/\quiet P o.op=false)->k<c->k<j:=by
      intro c
      induction c with
      |zero=>intro _;exact⟨0,.inl rfl,Nat.le_refl _,rfl,fun k _ h=>by omega⟩
      |succ c ih=>
       intro hc
       have hoc:ops[c]? =some (ops[c]'(by omega)):=Array.getElem?_eq_getElem _
       cases hqc:quiet P (ops[c]'(by omega)).op with
       |true=>
        obtain⟨j,j1,j2,j3,j4⟩:=ih (by omega)
        refine⟨j,j1,by omega,by rw[(hst c _ hoc).2 hqc,j3],fun k hk hkc=>?_⟩
        by_cases e:k=c
        ·subst e
         obtain⟨o',h1,h2⟩:=hk
         rw[hoc]at h1;cases h1
         rw[hqc]at h2;cases h2
        ·exact j4 k hk (by omega)
       |false=>exact⟨c+1,.inr ⟨c,rfl,hld hoc hqc⟩,Nat.le_refl _,rfl,fun k _ hk=>hk⟩
     obtain⟨j,j1,j2,j3,j4⟩:=hex c hc
     have hj:j∈Ni (CI ops.toList []) (Bf P 0 ops.toList) i:=by
      unfold Ni
      rw[List.mem_filter]
      refine⟨?_,?_⟩
      ·rcases j1 with rfl|⟨m,rfl,hm⟩
       ·simp
       ·exact List.mem_cons_of_mem _ (List.mem_map_of_mem hm)
      ·unfold jOk
       rw[List.all_eq_true]
       intro k hk
       obtain⟨k',ok,rfl,hk1,hk2⟩:=FZ.1 hk
       rw[Nat.zero_add]
       have hlk:∃ o,ops[k']? =some o/\quiet P o.op=false:=⟨ok,hoq.2 hk1,hk2⟩
       rw[Bool.and_eq_true]
       constructor
       ·cases hbb:Ij (CI ops.toList []) i k' with
        |false=>rfl
        |true=>
         have:=j4 k' hlk (d1 k' hlk (IQ hbb))
         rw[Bool.not_true,Bool.false_or,Nat.ble_eq];omega
       ·cases hbb:Ij (CI ops.toList []) k' i with
        |false=>rw[Bool.not_false,Bool.or_true]
        |true=>
         rw[Bool.not_true,Bool.or_false,Bool.not_eq_true']
         cases hle:Nat.ble (k'+1) j with
         |false=>rfl
         |true=>exact absurd (IQ hbb) (d2 k' hlk (by have:=Nat.le_of_ble_eq_true hle;omega))
     rw[j3]
     exact hck (i,Ni (CI ops.toList []) (Bf P 0 ops.toList) i) (Jr.2 ⟨i,o,by rw[Nat.zero_add],hoq.1 ho,hq,hst2⟩) o ho j hj)
/--WHAT THE EVALUATOR MAKES OF SUCH A REGION -/
theorem Np (hm:P.follows .mixedOrders=true) (hcf:Fg P cf) (hd:Bi ops.toList=true) {ld:List Nat} {cs:List (Nat×List Nat)} (ec:E9 P (CA P ops.toList (CI ops.toList [])) (CI ops.toList []) ops.toList=some (ld,cs)) (bars:Nat->Bool)
 {t:F} {h:H} {k:F->H->Bool} (hk:Ig cf (Ac bars P nt ops.toList (Ad P) 0 ops.toList) cs t h k=true):
 ∃ t' h',(∀ k',Ig cf (Ac bars P nt ops.toList (Ad P) 0 ops.toList) cs t h k'=k' t' h')/\Ax h h'/\B.val h.next<=B.val h'.next/\
  ∀ ρ a w w0 (id:Nat) (Q:Exit->Act->World->Prop),CS ρ nt t a->A8 ρ h w w0->(∀ ρ' a' w',Ext h.floor ρ ρ'->CS ρ' nt t' a'->A8 ρ' h' w' w0->Q .normal a' w')->(Code.region id ops true).wp P Q a w:=by
 have hoq:∀ {i:Nat} {o},ops[i]? =some o↔ops.toList[i]? =some o:=fun {i o}=>by rw[Array.getElem?_toList]
 have hcs:cs=Dw P (CI ops.toList []) (Bf P 0 ops.toList) 0 ops.toList:=by
  unfold E9 at ec
  split at ec
  ·cases ec;rfl
  ·cases ec
 unfold Ig at hk
 obtain⟨Ts,Hs,L,b1,b2,b3,b4,b5,b6⟩:=RP hcf bars ops.toList 0 rfl t h _ hk
 rw[Nat.zero_add]at b3
 simp only[Nat.zero_add]at b4
 have hLL:∀ {j:Nat} {tj hj},((t,h)::L)[j]? =some (tj,hj)->tj=Ts j/\hj=Hs j:=fun {j tj hj} e=>by
  cases j with
  |zero=>cases e;exact⟨b1.symm,b2.symm⟩
  |succ m=>
   have hm:m<L.length:=(List.getElem?_eq_some_iff.1 e).1|>fun h=>by simpa using h
   rw[List.getElem?_cons_succ,b4 m (by omega)]at e
   cases e;exact⟨rfl,rfl⟩
 rw[b3]at hk
 obtain⟨c1,c2⟩:=NV hcf bars (fun p hp=>by
  rw[hcs]at hp
  obtain⟨i,o,rfl,h2,h3,_⟩:=Jr.1 hp
  exact⟨o,by rw[Nat.zero_add];exact hoq.2 h2,h3⟩) hk
 have R:=Ml (nt:=nt) hm hd ec (fun i o ho=>⟨(b6 i o (Nat.zero_le _) ho).1,(b6 i o (Nat.zero_le _) ho).2.1⟩) (fun p hp o ho j hj=>by
  obtain⟨ti,hi,b,e1,e2⟩:=c2 p hp o ho
  obtain⟨rfl,rfl⟩:=hLL e1
  obtain⟨tj,hj',t',g1,g2,g3⟩:=e2 j hj
  obtain⟨rfl,rfl⟩:=hLL g1
  have e4:t'=Ts (p.1+1):=by
   have:=(b6 p.1 o (Nat.zero_le _) ho).2.2 b (fun t h k=>k t h)
   exact(TL fun k=>(this k).symm.trans (g3 (fun t h k=>k t h) k)).1
  rw[e4]at g2
  exact g2)
 have hlen:ops.toList.length=ops.size:=by simp
 rw[hlen]at b3
 obtain⟨R1,R2,R3⟩:=R
 rw[b2]at R1 R2 R3
 refine⟨Ts ops.size,Hs ops.size,fun k'=>?_,R1,R2,fun ρ a w w0 id Q A R hQ=>R3 ρ a w w0 id Q (by rw[b1];exact A) R hQ⟩
 unfold Ig
 rw[b3,c1]
end
end
end Go.Ev
namespace Go.Ev
open Go
theorem QS {tb:Nat->Bool} {P:Program} (htb:∀ f,tb f=true->Dh P f) (hm:P.follows .mixedOrders=true) {n:Nat} (hE:YL tb P n) (nt id:Nat) (ops:Array Oper) (draw:Bool) (t:F) (h:H) (k:X->F->H->Bool)
 (hk:exec tb (AY P) (n+1) (comp P nt (.region id ops draw)) t h k=true):
 ∃ x t' h',(∀ k',exec tb (AY P) (n+1) (comp P nt (.region id ops draw)) t h k'=k' x t' h')/\Ax h h'/\B.val h.next<=B.val h'.next/\IU P nt (.region id ops draw) t h x t' h':=by
 cases draw with
 |false=>
  have e:∀ k',exec tb (AY P) (n+1) (comp P nt (.region id ops false)) t h k'=DD (GC tb (exec tb (AY P) n) (AY P)) (Ac (fun _=>true) P nt ops.toList (Ad P) 0 ops.toList) t h (SF k'):=fun _=>rfl
  rw[e]at hk
  obtain⟨t',h',a1,a2,a3,a4⟩:=Sz (Ob htb hE) (fun _=>true) ops.toList 0 (by simp) t h _ hk
  refine⟨.normal,t',h',fun k'=>by rw[e,a1];rfl,a2,a3,fun ρ a w w0 Q A R hQ=>?_⟩
  refine wp_region ?_
  have:=a4 ρ a w w0 Q A R hQ
  rwa [show List.range' 0 ops.toList.length=List.range ops.size by rw[List.range_eq_range'];simp]at this
 |true=>
  cases hd:Bi ops.toList with
  |false=>
   have e:comp P nt (.region id ops true)=.bad:=by
    show Ar P nt ops.toList true=.bad
    simp only[Ar,hd]
   rw[e]at hk;exact Bool.noConfusion hk
  |true=>
   have e0:comp P nt (.region id ops true)=.Az (Ac (CA P ops.toList (CI ops.toList [])) P nt ops.toList (Ad P) 0 ops.toList) (E9 P (CA P ops.toList (CI ops.toList [])) (CI ops.toList []) ops.toList):=by
    show Ar P nt ops.toList true=_
    simp only[Ar,hd]
   cases hc:E9 P (CA P ops.toList (CI ops.toList [])) (CI ops.toList []) ops.toList with
   |none=>
    have e:∀ k',exec tb (AY P) (n+1) (comp P nt (.region id ops true)) t h k'=DE (GC tb (exec tb (AY P) n) (AY P)) (Ac (CA P ops.toList (CI ops.toList [])) P nt ops.toList (Ad P) 0 ops.toList) t h (SF k'):=by
     intro k';rw[e0,hc];rfl
    rw[e]at hk
    obtain⟨t',h',a1,a2,a3,a4⟩:=NP hm (Ob htb hE) hd hk
    exact⟨.normal,t',h',fun k'=>by rw[e,a1];rfl,a2,a3,fun ρ a w w0 Q A R hQ=>a4 ρ a w w0 id Q A R hQ⟩
   |some cs=>
    obtain⟨ld,cs⟩:=cs
    have e:∀ k',exec tb (AY P) (n+1) (comp P nt (.region id ops true)) t h k'=Ig (GC tb (exec tb (AY P) n) (AY P)) (Ac (CA P ops.toList (CI ops.toList [])) P nt ops.toList (Ad P) 0 ops.toList) cs t h (SF k'):=by
     intro k';rw[e0,hc];rfl
    rw[e]at hk
    obtain⟨t',h',a1,a2,a3,a4⟩:=Np hm (Ob htb hE) hd hc _ hk
    exact⟨.normal,t',h',fun k'=>by rw[e,a1];rfl,a2,a3,fun ρ a w w0 Q A R hQ=>a4 ρ a w w0 id Q A R hQ⟩
theorem Vl {tb:Nat->Bool} {P:Program} (htb:∀ f,tb f=true->Dh P f) (hm:P.follows .mixedOrders=true):∀ n,YL tb P n/\zO tb P n:=by
 intro n
 induction n with
 |zero=>exact⟨fun nt c t h k hk=>Bool.noConfusion hk,fun nt c t h k hk=>Bool.noConfusion hk⟩
 |succ n ih=>
  obtain⟨hE,hL⟩:=ih
  have hLp:zO tb P (n+1):=by
   intro nt c t h k hk
   have e:∀ k',exec tb (AY P) (n+1) (.loop (comp P nt c)) t h k'=exec tb (AY P) n (comp P nt c) t h (SC (exec tb (AY P) n) (comp P nt c) k'):=fun _=>rfl
   rw[e]at hk
   obtain⟨x,t1,h1,a1,a2,a3,a4⟩:=hE nt c t h _ hk
   rw[a1]at hk
   cases x with
   |normal=>
    have e2:∀ k',SC (exec tb (AY P) n) (comp P nt c) k' .normal t1 h1=exec tb (AY P) n (.loop (comp P nt c)) t1 h1 k':=fun _=>rfl
    rw[e2]at hk
    obtain⟨x2,t2,h2,b1,b2,b3,b4⟩:=hL nt c t1 h1 k hk
    refine⟨x2,t2,h2,fun k'=>by rw[e,a1,e2,b1],Ax.trans a2 a3 b2,Nat.le_trans a3 b3,fun ρ a w w0 Q A R hQ=>?_⟩
    refine C2 (a4 ρ a w w0 _ A R fun ρ' a' w' l1 A' R'=>?_)
    exact b4 ρ' a' w' w0 Q A' R' fun ρ'' a'' w'' l2 A'' R''=>hQ ρ'' a'' w'' (l1.trans (by rw[<-a2.1];exact l2)) A'' R''
   |exit id=>
    refine⟨.exit id,t1,h1,fun k'=>by rw[e,a1];rfl,a2,a3,fun ρ a w w0 Q A R hQ=>?_⟩
    exact C2 (a4 ρ a w w0 _ A R fun ρ' a' w' l1 A' R'=>hQ ρ' a' w' l1 A' R')
   |ret=>
    refine⟨.ret,t1,h1,fun k'=>by rw[e,a1];rfl,a2,a3,fun ρ a w w0 Q A R hQ=>?_⟩
    exact C2 (a4 ρ a w w0 _ A R fun ρ' a' w' l1 A' R'=>hQ ρ' a' w' l1 A' R')
  refine⟨fun nt c=>?_,hLp⟩
  induction c with
  |skip=>intro t h k hk;exact⟨.normal,t,h,fun _=>rfl,Ax.refl h,Nat.le_refl _,fun ρ a w w0 Q A R hQ=>wp_skip (hQ ρ a w (Ext.refl _ ρ) A R)⟩
  |label l=>intro t h k hk;exact⟨.normal,t,h,fun _=>rfl,Ax.refl h,Nat.le_refl _,fun ρ a w w0 Q A R hQ=>wp_label (hQ ρ a w (Ext.refl _ ρ) A R)⟩
  |exit id=>intro t h k hk;exact⟨.exit id,t,h,fun _=>rfl,Ax.refl h,Nat.le_refl _,fun ρ a w w0 Q A R hQ=>wp_exit (hQ ρ a w (Ext.refl _ ρ) A R)⟩
  |ret=>intro t h k hk;exact⟨.ret,t,h,fun _=>rfl,Ax.refl h,Nat.le_refl _,fun ρ a w w0 Q A R hQ=>wp_ret (hQ ρ a w (Ext.refl _ ρ) A R)⟩
  |goto l=>intro t h k hk;exact Bool.noConfusion hk
  |refuse s=>intro t h k hk;exact Bool.noConfusion hk
  |rangeFunc f ps x y ihx ihy=>intro t h k hk;exact Bool.noConfusion hk
  |region id ops draw=>intro t h k hk;exact QS htb hm hE nt id ops draw t h k hk
  |loop c ihc=>
   intro t h k hk
   obtain⟨x,t',h',a1,a2,a3,a4⟩:=hLp nt c t h k hk
   exact⟨x,t',h',a1,a2,a3,fun ρ a w w0 Q A R hQ=>Jy (a4 ρ a w w0 Q A R hQ)⟩
  |scope c ihc=>
   intro t h k hk
   obtain⟨x,t',h',a1,a2,a3,a4⟩:=ihc t h k hk
   refine⟨x,t',h',a1,a2,a3,fun ρ a w w0 Q A R hQ=>wp_scope_straight (a4 ρ a w w0 _ A R fun ρ' a' w' l1 A' R'=>?_)⟩
   have:=hQ ρ' a' w' l1 A' R'
   cases x<;>exact this
  |seq c1 c2 ih1 ih2=>
   intro t h k hk
   have e:∀ k',exec tb (AY P) (n+1) (comp P nt (.seq c1 c2)) t h k'=exec tb (AY P) n (comp P nt c1) t h (aD (exec tb (AY P) n) (comp P nt c2) k'):=fun _=>rfl
   rw[e]at hk
   obtain⟨x,t1,h1,a1,a2,a3,a4⟩:=hE nt c1 t h _ hk
   rw[a1]at hk
   cases x with
   |normal=>
    have e2:∀ k',aD (exec tb (AY P) n) (comp P nt c2) k' .normal t1 h1=exec tb (AY P) n (comp P nt c2) t1 h1 k':=fun _=>rfl
    rw[e2]at hk
    obtain⟨x2,t2,h2,b1,b2,b3,b4⟩:=hE nt c2 t1 h1 k hk
    refine⟨x2,t2,h2,fun k'=>by rw[e,a1,e2,b1],Ax.trans a2 a3 b2,Nat.le_trans a3 b3,fun ρ a w w0 Q A R hQ=>?_⟩
    refine wp_seq (a4 ρ a w w0 _ A R fun ρ' a' w' l1 A' R'=>?_)
    exact b4 ρ' a' w' w0 Q A' R' fun ρ'' a'' w'' l2 A'' R''=>hQ ρ'' a'' w'' (l1.trans (by rw[<-a2.1];exact l2)) A'' R''
   |exit id=>
    refine⟨.exit id,t1,h1,fun k'=>by rw[e,a1];rfl,a2,a3,fun ρ a w w0 Q A R hQ=>?_⟩
    exact wp_seq (a4 ρ a w w0 _ A R fun ρ' a' w' l1 A' R'=>hQ ρ' a' w' l1 A' R')
   |ret=>
    refine⟨.ret,t1,h1,fun k'=>by rw[e,a1];rfl,a2,a3,fun ρ a w w0 Q A R hQ=>?_⟩
    exact wp_seq (a4 ρ a w w0 _ A R fun ρ' a' w' l1 A' R'=>hQ ρ' a' w' l1 A' R')
  |cond c c1 c2 ih1 ih2=>
   intro t h k hk
   have e:∀ k',exec tb (AY P) (n+1) (comp P nt (.cond c c1 c2)) t h k'=oE (AN c) t fun c'=>vB c' fun b=>Vu b (exec tb (AY P) n) (comp P nt c1) (comp P nt c2) t h k':=fun _=>rfl
   rw[e,AQ]at hk
   obtain⟨b,hb,hk⟩:=H5 hk
   have hev:∀ ρ a,CS ρ nt t a->a.eval c=.bool b:=fun ρ a A=>by
    have:=KP A c
    rw[hb]at this;exact this
   cases b with
   |true=>
    have hk':exec tb (AY P) n (comp P nt c1) t h k=true:=hk
    obtain⟨x,t1,h1,a1,a2,a3,a4⟩:=hE nt c1 t h k hk'
    exact⟨x,t1,h1,fun k'=>by rw[e,AQ,hb,Qy];exact a1 k',a2,a3,fun ρ a w w0 Q A R hQ=>wp_cond_true (hev ρ a A) (a4 ρ a w w0 Q A R hQ)⟩
   |false=>
    have hk':exec tb (AY P) n (comp P nt c2) t h k=true:=hk
    obtain⟨x,t1,h1,a1,a2,a3,a4⟩:=hE nt c2 t h k hk'
    exact⟨x,t1,h1,fun k'=>by rw[e,AQ,hb,Qy];exact a1 k',a2,a3,fun ρ a w w0 Q A R hQ=>wp_cond_false (hev ρ a A) (a4 ρ a w w0 Q A R hQ)⟩
  |block id c ihc=>
   intro t h k hk
   have e:∀ k',exec tb (AY P) (n+1) (comp P nt (.block id c)) t h k'=exec tb (AY P) n (comp P nt c) t h (N0 id k'):=fun _=>rfl
   rw[e]at hk
   obtain⟨x,t1,h1,a1,a2,a3,a4⟩:=hE nt c t h _ hk
   cases x with
   |normal=>exact⟨.normal,t1,h1,fun k'=>by rw[e,a1];rfl,a2,a3,fun ρ a w w0 Q A R hQ=>wp_block (a4 ρ a w w0 _ A R fun ρ' a' w' l1 A' R'=>hQ ρ' a' w' l1 A' R')⟩
   |ret=>exact⟨.ret,t1,h1,fun k'=>by rw[e,a1];rfl,a2,a3,fun ρ a w w0 Q A R hQ=>wp_block (a4 ρ a w w0 _ A R fun ρ' a' w' l1 A' R'=>hQ ρ' a' w' l1 A' R')⟩
   |exit j=>
    have e2:∀ k',N0 id k' (.exit j) t1 h1=TH (Nat.beq j id) j k' t1 h1:=fun _=>rfl
    cases hj:Nat.beq j id with
    |true=>
     have hji:j=id:=Nat.eq_of_beq_eq_true hj
     refine⟨.normal,t1,h1,fun k'=>by rw[e,a1,e2,hj];rfl,a2,a3,fun ρ a w w0 Q A R hQ=>wp_block (a4 ρ a w w0 _ A R fun ρ' a' w' l1 A' R'=>?_)⟩
     show(if j=id then Q .normal a' w' else Q (.exit j) a' w')
     rw[if_pos hji];exact hQ ρ' a' w' l1 A' R'
    |false=>
     have hji:¬j=id:=fun h=>by rw[h]at hj;simp at hj
     refine⟨.exit j,t1,h1,fun k'=>by rw[e,a1,e2,hj];rfl,a2,a3,fun ρ a w w0 Q A R hQ=>wp_block (a4 ρ a w w0 _ A R fun ρ' a' w' l1 A' R'=>?_)⟩
     show(if j=id then Q .normal a' w' else Q (.exit j) a' w')
     rw[if_neg hji];exact hQ ρ' a' w' l1 A' R'
def SP:BC:=fun _ _=>none
theorem Pn (w:World):A8 SP H.zero w w:=
 ⟨fun _ _ _ h=>(by cases h),fun _ _ _ h=>(by cases h),fun _ _ _ _ _ _ h=>(by cases h),Nat.le_refl _,fun _ _=>rfl,fun _ _ _ h=>(by cases h),rfl,rfl,rfl,Nat.le_refl _,fun _ _ _ h=>(by cases h),fun _ _ _ _ _ h=>(by cases h)⟩
theorem A8.same {ρ:BC} {h:H} {w w0:World} (R:A8 ρ h w w0):Sg w0 w:=⟨R.H0,R.JN,R.tp,R.os,R.out⟩
theorem Sg.below {w w':World} (R:Sg w w'):RowKit.Below w.heap.size w w':=⟨R.2.2.2.1,R.2.2.1,R.2.2.2.2,R.2.1,R.1⟩
/--WHAT A RUN SAYS:where the evaluator comes to 'true',so does the model's call,whatever the world,and of what was there nothing turns. -/
theorem runs {tb:Nat->Bool} {P:Program} (htb:∀ f,tb f=true->Dh P f) (hm:P.follows .mixedOrders=true) {n:Nat} {f:FuncId} {vs:List V} (h:Q5 tb P n f vs=true) {args:List Value} (ha:BJ SP vs args) (w:World):
 (callFunc f args.toArray).run P w=.ok (.enter f args.toArray) w/\Calls P f args.toArray w fun e w'=>e=.returned (.bool true)/\Sg w w':=by
 obtain⟨v,h',h1,h2,h3,h4⟩:=Ob htb (Vl htb hm n).1 f vs H.zero isTrue h
 have ht:isTrue v h'=true:=by
  have:=h1 isTrue
  rw[<-this];exact h
 obtain⟨b,hb,hbt⟩:=H5 ht
 obtain⟨c1,c2⟩:=h4 SP w w args ha (Pn w)
 refine⟨c1,c2.mono fun e w' he=>?_⟩
 obtain⟨x,rfl,ρ',_,x2,x3⟩:=he
 rw[hb]at x2
 have x2':x=.bool b:=x2
 rw[x2',hbt]
 exact⟨rfl,x3.same⟩
theorem UF (P:Program):∀ f,yE f=true->Dh P f:=fun _ h=>Bool.noConfusion h
/--a function without parameters that was run once need not be run again -/
theorem T5 {tb:Nat->Bool} {P:Program} (htb:∀ f,tb f=true->Dh P f) (hm:P.follows .mixedOrders=true) {n:Nat} {f:FuncId} (h:Q5 tb P n f []=true):Dh P f:=
 fun w=>runs htb hm h (args:=[]) trivial w
end Go.Ev
namespace Go.Ev
open Go
section
open Go.RowKit Go.WideShapes Go.ChangeShapes
variable {H:Type} {enc:TypeId×Value->H} {P:Program}
/--THE ROW's LAST STEP,where of what was there nothing turned (new blocks may be frozen). -/
theorem P9 {f:Func} {s:ChangeSpec} {apart fresh handsOn again:Bool} {W W':World} {args:Array Value} {v:Value} {ds gs:List (DataW H)} {before pa pv:List MemPlace} (hb:Below W.heap.size W W')
 (hW:DataW.Whole enc P f.params.toList s.vars apart W args.toList ds gs before)
 (hres:∀ (b:Nat) (sp:Nat->Bool) (hd:Bool),DataW.TrodAll enc P W' b sp hd f.resultTypes.toList (v.resultList f.resultTypes.size) (s.fn H (ds++gs)).results [])
 (hargs:∀ sp:Nat->Bool,(∀ p∈before,sp p.block=true)->DataW.TrodAll enc P W' 0 sp true f.params.toList args.toList (s.fn H (ds++gs)).args pa)
 (hvars:∀ sp:Nat->Bool,(∀ p∈before,sp p.block=true)->DataW.TrodVars enc P W' sp s.vars (s.fn H (ds++gs)).vars pv)
 (hps:before=pa++pv)
 (hok:∀ (j:Nat) (t:TypeId) (r:Value),f.resultTypes[j]? =some t->(v.resultList f.resultTypes.size)[j]? =some r->Value.okWide P W' .any 0 t r):
 s.post enc P f apart fresh handsOn again W args v W':=by
 have hlt:=fun p hp=>hW.lt p hp
 have hin:∀ p∈before,(fun b=>decide (b<W.heap.size)) p.block=true:=fun p hp=>decide_eq_true (hlt p hp)
 have hkept:=hb.frame (·∈before)
 refine⟨ds,gs,before,[],pa,pv,hW,hres _ _ _,hargs _ hin,hvars _ hin,World.keptBut_mono (fun p hp=>⟨hp,?_⟩) hkept,fun _=>?_⟩
 ·have:=hps▸hp
  exact .inr (List.mem_append.1 this)
 ·obtain⟨_,_,_,_,_,hz,hn⟩:=hW
  refine⟨hok,_,_,([]++pa)++pv,⟨[]++pa,pv,trodAll_append (hargs _ fun _ _=>rfl) (hres _ _ _),hvars _ fun _ _=>rfl,rfl,fun b off hp=>?_,fun ha=>?_⟩,fun p hp _=>?_⟩
  ·have hp':MemPlace.cell b off∈before:=by rw[hps];simpa using hp
   rw[hb.frozen (hlt _ hp')]
   exact hz b off hp'
  ·have hn':=hn ha
   rw[hps]at hn'
   simpa using hn'
  ·rw[hps];simpa using hp
end
end Go.Ev
namespace Go.Ev
open Go
def put (n:Nat) (v:V) (t:F):F:=Classical.choose (Fq (AT n) v t)
def get (n:Nat) (t:F):V:=Bm (AT n) t
theorem El (n:Nat) (v:V) (t:F) (k:F->Bool):Jj (AT n) v t k=k (put n v t):=(Classical.choose_spec (Fq (AT n) v t)).1 k
theorem PI (n m:Nat) (v:V) (t:F) (hn:n<512) (hm:m<512):get n (put m v t)=if n=m then v else get n t:=by
 have h:=Classical.choose_spec (Fq (AT m) v t)
 by_cases e:n=m
 ·subst e;rw[if_pos rfl];exact h.2.1
 ·rw[if_neg e];exact h.2.2 _ fun he=>e (Hr hn hm he)
def Ap:List V->Nat->F->F
 |[],_,t=>t
 |v::vs,n,t=>Ap vs (n+1) (put n v t)
theorem HX:∀ (vs:List V) (n:Nat) (t:F) (k:F->Bool),Dj vs n t k=k (Ap vs n t)
 |[],_,_,_=>rfl
 |v::vs,n,t,k=>by
  have e:Dj (v::vs) n t k=Jj (AT n) v t fun t=>Dj vs (n+1) t k:=rfl
  rw[e,El,HX vs];rfl
abbrev tm (n:Nat):O:=.t (AT n)
theorem ZF (n:Nat) (t:F):oV (.t (AT n)) t=get n t:=rfl
theorem AAT (v:V) (t:F):oV (.c v) t=v:=rfl
def Steps (P:Program) (nt:Nat) (c:Code) (t:F) (h:H) (x:X) (t':F) (h':H):Prop:=Ax h h'/\B.val h.next<=B.val h'.next/\IU P nt c t h x t' h'
/--the code that is compiled as 'cc' comes,from that state,to one of which K holds -/
def Ok (P:Program) (nt:Nat) (cc:CC) (t:F) (h:H) (K:X->F->H->Prop):Prop:=∃ x t' h',(∀ c,comp P nt c=cc->Steps P nt c t h x t' h')/\K x t' h'
theorem Ok.mono {P:Program} {nt:Nat} {cc:CC} {t:F} {h:H} {K K':X->F->H->Prop} (a:Ok P nt cc t h K) (hk:∀ x t h,K x t h->K' x t h):Ok P nt cc t h K':=by
 obtain⟨x,t',h',a1,a2⟩:=a
 exact⟨x,t',h',a1,hk _ _ _ a2⟩
theorem Steps.scope {P:Program} {nt:Nat} {c:Code} {t:F} {h:H} {x:X} {t':F} {h':H} (a:Steps P nt c t h x t' h'):Steps P nt (.scope c) t h x t' h':=by
 obtain⟨a2,a3,a4⟩:=a
 refine⟨a2,a3,fun ρ a w w0 Q A R hQ=>wp_scope_straight (a4 ρ a w w0 _ A R fun ρ' a' w' l1 A' R'=>?_)⟩
 have:=hQ ρ' a' w' l1 A' R'
 cases x<;>exact this
theorem Steps.trans {P:Program} {nt:Nat} {c1 c2:Code} {t t1 t2:F} {h h1 h2:H} {x:X} (a:Steps P nt c1 t h .normal t1 h1) (b:Steps P nt c2 t1 h1 x t2 h2):Steps P nt (.seq c1 c2) t h x t2 h2:=by
 obtain⟨a2,a3,a4⟩:=a
 obtain⟨b2,b3,b4⟩:=b
 refine⟨Ax.trans a2 a3 b2,Nat.le_trans a3 b3,fun ρ a w w0 Q A R hQ=>?_⟩
 refine wp_seq (a4 ρ a w w0 _ A R fun ρ' a' w' l1 A' R'=>?_)
 exact b4 ρ' a' w' w0 Q A' R' fun ρ'' a'' w'' l2 A'' R''=>hQ ρ'' a'' w'' (l1.trans (by rw[<-a2.1];exact l2)) A'' R''
/--what is compiled so is code of that kind,but for scopes -/
theorem BR {P:Program} {nt:Nat} {t:F} {h:H} {x:X} {t':F} {h':H} (cc:CC)
 (base:∀ c,comp P nt c=cc->(∀ d,c≠.scope d)->Steps P nt c t h x t' h'):∀ c,comp P nt c=cc->Steps P nt c t h x t' h':=by
 intro c
 induction c with
 |scope d ih=>intro e;exact(ih e).scope
 |_=>intro e;exact base _ e (fun d hd=>by cases hd)
section
variable {P:Program} {nt:Nat} {t:F} {h:H} {K:X->F->H->Prop}
theorem Ok.skip (k:K .normal t h):Ok P nt .skip t h K:=by
 refine⟨.normal,t,h,BR _ fun c e hs=>?_,k⟩
 have r:∀ c,(c=.skip\/∃ l,c=.label l)->Steps P nt c t h .normal t h:=by
  rintro c (rfl|⟨l,rfl⟩)
  ·exact⟨Ax.refl h,Nat.le_refl _,fun ρ a w w0 Q A R hQ=>wp_skip (hQ ρ a w (Ext.refl _ ρ) A R)⟩
  ·exact⟨Ax.refl h,Nat.le_refl _,fun ρ a w w0 Q A R hQ=>wp_label (hQ ρ a w (Ext.refl _ ρ) A R)⟩
 cases c with
 |skip=>exact r _ (.inl rfl)
 |label l=>exact r _ (.inr ⟨l,rfl⟩)
 |scope d=>exact absurd rfl (hs d)
 |region id ops draw=>
  have e':Ar P nt ops.toList draw=.skip:=e
  unfold Ar at e'
  split at e'
  ·cases e'
  ·split at e'<;>cases e'
 |_=>cases e
theorem Ok.exit {id:Nat} (k:K (.exit id) t h):Ok P nt (.exit id) t h K:=by
 refine⟨.exit id,t,h,BR _ fun c e hs=>?_,k⟩
 cases c with
 |exit j=>cases e;exact⟨Ax.refl h,Nat.le_refl _,fun ρ a w w0 Q A R hQ=>wp_exit (hQ ρ a w (Ext.refl _ ρ) A R)⟩
 |scope d=>exact absurd rfl (hs d)
 |region id ops draw=>
  have e':Ar P nt ops.toList draw=.exit _:=e
  unfold Ar at e'
  split at e'
  ·cases e'
  ·split at e'<;>cases e'
 |_=>cases e
theorem Ok.ret (k:K .ret t h):Ok P nt .ret t h K:=by
 refine⟨.ret,t,h,BR _ fun c e hs=>?_,k⟩
 cases c with
 |ret=>exact⟨Ax.refl h,Nat.le_refl _,fun ρ a w w0 Q A R hQ=>wp_ret (hQ ρ a w (Ext.refl _ ρ) A R)⟩
 |scope d=>exact absurd rfl (hs d)
 |region id ops draw=>
  have e':Ar P nt ops.toList draw=.ret:=e
  unfold Ar at e'
  split at e'
  ·cases e'
  ·split at e'<;>cases e'
 |_=>cases e
/--behind the first part -/
def Za (K':F->H->Prop) (K:X->F->H->Prop):X->F->H->Prop
 |.normal,t,h=>K' t h
 |x,t,h=>K x t h
theorem Ok.seq {a b:CC} (k:Ok P nt a t h (Za (fun t h=>Ok P nt b t h K) K)):Ok P nt (.seq a b) t h K:=by
 obtain⟨x,t1,h1,a1,a2⟩:=k
 have inv:∀ c,comp P nt c=.seq a b->(∀ d,c≠.scope d)->∃ c1 c2,c=.seq c1 c2/\comp P nt c1=a/\comp P nt c2=b:=by
  intro c e hs
  cases c with
  |seq c1 c2=>cases e;exact⟨c1,c2,rfl,rfl,rfl⟩
  |scope d=>exact absurd rfl (hs d)
  |region id ops draw=>
   have e':Ar P nt ops.toList draw=.seq a b:=e
   unfold Ar at e'
   split at e'
   ·cases e'
   ·split at e'<;>cases e'
  |_=>cases e
 cases x with
 |normal=>
  obtain⟨x2,t2,h2,b1,b2⟩:=a2
  refine⟨x2,t2,h2,BR _ fun c e hs=>?_,b2⟩
  obtain⟨c1,c2,rfl,e1,e2⟩:=inv c e hs
  exact(a1 c1 e1).trans (b1 c2 e2)
 |exit id=>
  refine⟨_,t1,h1,BR _ fun c e hs=>?_,a2⟩
  obtain⟨c1,c2,rfl,e1,e2⟩:=inv c e hs
  obtain⟨s1,s2,s3⟩:=a1 c1 e1
  exact⟨s1,s2,fun ρ a w w0 Q A R hQ=>wp_seq (s3 ρ a w w0 _ A R fun ρ' a' w' l1 A' R'=>hQ ρ' a' w' l1 A' R')⟩
 |ret=>
  refine⟨_,t1,h1,BR _ fun c e hs=>?_,a2⟩
  obtain⟨c1,c2,rfl,e1,e2⟩:=inv c e hs
  obtain⟨s1,s2,s3⟩:=a1 c1 e1
  exact⟨s1,s2,fun ρ a w w0 Q A R hQ=>wp_seq (s3 ρ a w w0 _ A R fun ρ' a' w' l1 A' R'=>hQ ρ' a' w' l1 A' R')⟩
theorem Ok.cond {o:O} {a b:CC} {q:Bool} (hq:oV o t=.b q) (ha:q=true->Ok P nt a t h K) (hb:q=false->Ok P nt b t h K):Ok P nt (.cond o a b) t h K:=by
 have inv:∀ c,comp P nt c=.cond o a b->(∀ d,c≠.scope d)->∃ x c1 c2,c=.cond x c1 c2/\AN x=o/\comp P nt c1=a/\comp P nt c2=b:=by
  intro c e hs
  cases c with
  |cond x c1 c2=>cases e;exact⟨x,c1,c2,rfl,rfl,rfl,rfl⟩
  |scope d=>exact absurd rfl (hs d)
  |region id ops draw=>
   have e':Ar P nt ops.toList draw=.cond o a b:=e
   unfold Ar at e'
   split at e'
   ·cases e'
   ·split at e'<;>cases e'
  |_=>cases e
 have hev:∀ x,AN x=o->∀ ρ a,CS ρ nt t a->a.eval x=.bool q:=fun x hx ρ a A=>by
  have:=KP A x
  rw[hx,hq]at this;exact this
 cases q with
 |true=>
  obtain⟨x,t1,h1,a1,a2⟩:=ha rfl
  refine⟨x,t1,h1,BR _ fun c e hs=>?_,a2⟩
  obtain⟨y,c1,c2,rfl,e0,e1,e2⟩:=inv c e hs
  obtain⟨s1,s2,s3⟩:=a1 c1 e1
  exact⟨s1,s2,fun ρ a w w0 Q A R hQ=>wp_cond_true (hev y e0 ρ a A) (s3 ρ a w w0 Q A R hQ)⟩
 |false=>
  obtain⟨x,t1,h1,a1,a2⟩:=hb rfl
  refine⟨x,t1,h1,BR _ fun c e hs=>?_,a2⟩
  obtain⟨y,c1,c2,rfl,e0,e1,e2⟩:=inv c e hs
  obtain⟨s1,s2,s3⟩:=a1 c2 e2
  exact⟨s1,s2,fun ρ a w w0 Q A R hQ=>wp_cond_false (hev y e0 ρ a A) (s3 ρ a w w0 Q A R hQ)⟩
/--out of a block -/
def Out (id:Nat) (K:X->F->H->Prop):X->F->H->Prop
 |.exit j,t,h=>if j=id then K .normal t h else K (.exit j) t h
 |x,t,h=>K x t h
theorem Ok.block {id:Nat} {a:CC} (k:Ok P nt a t h (Out id K)):Ok P nt (.block id a) t h K:=by
 obtain⟨x,t1,h1,a1,a2⟩:=k
 have inv:∀ c,comp P nt c=.block id a->(∀ d,c≠.scope d)->∃ c1,c=.block id c1/\comp P nt c1=a:=by
  intro c e hs
  cases c with
  |block j c1=>cases e;exact⟨c1,rfl,rfl⟩
  |scope d=>exact absurd rfl (hs d)
  |region id ops draw=>
   have e':Ar P nt ops.toList draw=.block _ a:=e
   unfold Ar at e'
   split at e'
   ·cases e'
   ·split at e'<;>cases e'
  |_=>cases e
 cases x with
 |normal=>
  refine⟨_,t1,h1,BR _ fun c e hs=>?_,a2⟩
  obtain⟨c1,rfl,e1⟩:=inv c e hs
  obtain⟨s1,s2,s3⟩:=a1 c1 e1
  exact⟨s1,s2,fun ρ a w w0 Q A R hQ=>wp_block (s3 ρ a w w0 _ A R fun ρ' a' w' l1 A' R'=>hQ ρ' a' w' l1 A' R')⟩
 |ret=>
  refine⟨_,t1,h1,BR _ fun c e hs=>?_,a2⟩
  obtain⟨c1,rfl,e1⟩:=inv c e hs
  obtain⟨s1,s2,s3⟩:=a1 c1 e1
  exact⟨s1,s2,fun ρ a w w0 Q A R hQ=>wp_block (s3 ρ a w w0 _ A R fun ρ' a' w' l1 A' R'=>hQ ρ' a' w' l1 A' R')⟩
 |exit j=>
  by_cases hj:j=id
  ·have a2':K .normal t1 h1:=by
    have:(if j=id then K .normal t1 h1 else K (.exit j) t1 h1):=a2
    rwa [if_pos hj]at this
   refine⟨_,t1,h1,BR _ fun c e hs=>?_,a2'⟩
   obtain⟨c1,rfl,e1⟩:=inv c e hs
   obtain⟨s1,s2,s3⟩:=a1 c1 e1
   refine⟨s1,s2,fun ρ a w w0 Q A R hQ=>wp_block (s3 ρ a w w0 _ A R fun ρ' a' w' l1 A' R'=>?_)⟩
   show(if j=id then Q .normal a' w' else Q (.exit j) a' w')
   rw[if_pos hj];exact hQ ρ' a' w' l1 A' R'
  ·have a2':K (.exit j) t1 h1:=by
    have:(if j=id then K .normal t1 h1 else K (.exit j) t1 h1):=a2
    rwa [if_neg hj]at this
   refine⟨_,t1,h1,BR _ fun c e hs=>?_,a2'⟩
   obtain⟨c1,rfl,e1⟩:=inv c e hs
   obtain⟨s1,s2,s3⟩:=a1 c1 e1
   refine⟨s1,s2,fun ρ a w w0 Q A R hQ=>wp_block (s3 ρ a w w0 _ A R fun ρ' a' w' l1 A' R'=>?_)⟩
   show(if j=id then Q .normal a' w' else Q (.exit j) a' w')
   rw[if_neg hj];exact hQ ρ' a' w' l1 A' R'
end
/--a loop:'Inv m' holds at each round's head,and m falls -/
theorem Ok.loop {P:Program} {nt:Nat} {a:CC} {K:X->F->H->Prop} (Inv:Nat->F->H->Prop)
 (round:∀ m t h,Inv m t h->Ok P nt a t h (Za (fun t' h'=>∃ m',m'<m/\Inv m' t' h') K)):∀ m t h,Inv m t h->Ok P nt (.loop a) t h K:=by
 have inv:∀ c,comp P nt c=.loop a->(∀ d,c≠.scope d)->∃ c1,c=.loop c1/\comp P nt c1=a:=by
  intro c e hs
  cases c with
  |loop c1=>cases e;exact⟨c1,rfl,rfl⟩
  |scope d=>exact absurd rfl (hs d)
  |region id ops draw=>
   have e':Ar P nt ops.toList draw=.loop a:=e
   unfold Ar at e'
   split at e'
   ·cases e'
   ·split at e'<;>cases e'
  |_=>cases e
 have main:∀ n m t h,m<=n->Inv m t h->∃ x t' h',(∀ c,comp P nt c=a->Ax h h'/\B.val h.next<=B.val h'.next/\Kr P nt c t h x t' h')/\K x t' h':=by
  intro n
  induction n with
  |zero=>
   intro m t h hm hI
   obtain⟨x,t1,h1,a1,a2⟩:=round m t h hI
   cases x with
   |normal=>obtain⟨m',hm',_⟩:=a2;omega
   |exit id=>exact⟨_,t1,h1,fun c e=>⟨(a1 c e).1,(a1 c e).2.1,fun ρ a w w0 Q A R hQ=>C2 ((a1 c e).2.2 ρ a w w0 _ A R fun ρ' a' w' l1 A' R'=>hQ ρ' a' w' l1 A' R')⟩,a2⟩
   |ret=>exact⟨_,t1,h1,fun c e=>⟨(a1 c e).1,(a1 c e).2.1,fun ρ a w w0 Q A R hQ=>C2 ((a1 c e).2.2 ρ a w w0 _ A R fun ρ' a' w' l1 A' R'=>hQ ρ' a' w' l1 A' R')⟩,a2⟩
  |succ n ih=>
   intro m t h hm hI
   obtain⟨x,t1,h1,a1,a2⟩:=round m t h hI
   cases x with
   |normal=>
    obtain⟨m',hm',hI'⟩:=a2
    obtain⟨x2,t2,h2,b1,b2⟩:=ih m' t1 h1 (by omega) hI'
    refine⟨x2,t2,h2,fun c e=>?_,b2⟩
    obtain⟨s1,s2,s3⟩:=a1 c e
    obtain⟨r1,r2,r3⟩:=b1 c e
    refine⟨Ax.trans s1 s2 r1,Nat.le_trans s2 r2,fun ρ a w w0 Q A R hQ=>?_⟩
    refine C2 (s3 ρ a w w0 _ A R fun ρ' a' w' l1 A' R'=>?_)
    exact r3 ρ' a' w' w0 Q A' R' fun ρ'' a'' w'' l2 A'' R''=>hQ ρ'' a'' w'' (l1.trans (by rw[<-s1.1];exact l2)) A'' R''
   |exit id=>exact⟨_,t1,h1,fun c e=>⟨(a1 c e).1,(a1 c e).2.1,fun ρ a w w0 Q A R hQ=>C2 ((a1 c e).2.2 ρ a w w0 _ A R fun ρ' a' w' l1 A' R'=>hQ ρ' a' w' l1 A' R')⟩,a2⟩
   |ret=>exact⟨_,t1,h1,fun c e=>⟨(a1 c e).1,(a1 c e).2.1,fun ρ a w w0 Q A R hQ=>C2 ((a1 c e).2.2 ρ a w w0 _ A R fun ρ' a' w' l1 A' R'=>hQ ρ' a' w' l1 A' R')⟩,a2⟩
 intro m t h hI
 obtain⟨x,t',h',a1,a2⟩:=main m m t h (Nat.le_refl _) hI
 refine⟨x,t',h',BR _ fun c e hs=>?_,a2⟩
 obtain⟨c1,rfl,e1⟩:=inv c e hs
 obtain⟨s1,s2,s3⟩:=a1 c1 e1
 exact⟨s1,s2,fun ρ a w w0 Q A R hQ=>Jy (s3 ρ a w w0 Q A R hQ)⟩
def Sr (P:Program) (f:FuncId) (vs:List V) (h:H) (v:V) (h':H):Prop:=Ax h h'/\B.val h.next<=B.val h'.next/\
 ∀ ρ w w0 args,BJ ρ vs args->A8 ρ h w w0->
  (callFunc f args.toArray).run P w=.ok (.enter f args.toArray) w/\Calls P f args.toArray w fun e w'=>∃ x,e=.returned x/\Sv h.floor ρ w0 v h' x w'
def BF (P:Program) (f:FuncId) (vs:List V) (h:H) (K:V->H->Prop):Prop:=∃ v h',Sr P f vs h v h'/\K v h'
theorem BF.mono {P:Program} {f:FuncId} {vs:List V} {h:H} {K K':V->H->Prop} (a:BF P f vs h K) (hk:∀ v h,K v h->K' v h):BF P f vs h K':=by
 obtain⟨v,h',a1,a2⟩:=a
 exact⟨v,h',a1,hk _ _ a2⟩
abbrev Spec:=FuncId->List V->H->V->H->Prop
open Classical in
/--calls by their specifications -/
def GH (P:Program) (S:Spec):Bn:=fun f vs h k=>if e:∃ r:V×H,Sr P f vs h r.1 r.2/\S f vs h r.1 r.2 then k (Classical.choose e).1 (Classical.choose e).2 else false
theorem J8 (P:Program) (S:Spec):Fg P (GH P S):=by
 intro f vs h k hk
 unfold GH at hk
 split at hk
 ·rename_i e
  have:=(Classical.choose_spec e).1
  refine⟨_,_,fun k'=>?_,this.1,this.2.1,this.2.2⟩
  ·unfold GH;rw[dif_pos e]
 ·cases hk
/--a call:what comes of it is one value,one state,of which the specification holds -/
theorem H8 {P:Program} {S:Spec} {f:FuncId} {vs:List V} {h:H} (a:BF P f vs h (S f vs h)):∃ v h',(∀ k,GH P S f vs h k=k v h')/\S f vs h v h':=by
 have e:∃ r:V×H,Sr P f vs h r.1 r.2/\S f vs h r.1 r.2:=by
  obtain⟨v,h',a1,a2⟩:=a
  exact⟨(v,h'),a1,a2⟩
 exact⟨_,_,fun k=>by unfold GH;rw[dif_pos e],(Classical.choose_spec e).2⟩
section
variable {P:Program} {nt:Nat} {t:F} {h:H} {K:X->F->H->Prop}
theorem Ok.region {S:Spec} {ops:List CO} {t':F} {h':H} (e:∀ k:F->H->Bool,DD (GH P S) ops t h k=k t' h') (k:K .normal t' h'):Ok P nt (.region ops) t h K:=by
 refine⟨.normal,t',h',BR _ fun c e' hs=>?_,k⟩
 cases c with
 |region id os draw=>
  have e1:Ar P nt os.toList draw=.region ops:=e'
  unfold Ar at e1
  split at e1
  ·cases e1
   obtain⟨t1,h1,a1,a2,a3,a4⟩:=Sz (J8 P S) (fun _=>true) os.toList 0 (by simp) t h (fun _ _=>true) (e _)
   have hth:t1=t'/\h1=h':=by
    have:=(a1 fun t2 h2=>@decide (t2=t1/\h2=h1) (Classical.propDecidable _))
    rw[e]at this
    simp at this
    exact⟨this.1.symm,this.2.symm⟩
   obtain⟨rfl,rfl⟩:=hth
   refine⟨a2,a3,fun ρ a w w0 Q A R hQ=>wp_region ?_⟩
   have:=a4 ρ a w w0 Q A R hQ
   rwa [show List.range' 0 os.toList.length=List.range os.size by rw[List.range_eq_range'];simp]at this
  ·split at e1<;>cases e1
 |scope d=>exact absurd rfl (hs d)
 |_=>cases e'
theorem Ok.Az {S:Spec} (hm:P.follows .mixedOrders=true) {ops:List CO} {ch:Option (List Nat×List (Nat×List Nat))} {t':F} {h':H} (e:∀ k:F->H->Bool,DE (GH P S) ops t h k=k t' h') (k:K .normal t' h'):Ok P nt (.Az ops ch) t h K:=by
 refine⟨.normal,t',h',BR _ fun c e' hs=>?_,k⟩
 cases c with
 |region id os draw=>
  have e1:Ar P nt os.toList draw=.Az ops ch:=e'
  unfold Ar at e1
  split at e1
  ·cases e1
  ·split at e1
   ·rename_i hd
    cases e1
    obtain⟨t1,h1,a1,a2,a3,a4⟩:=NP hm (J8 P S) hd (e fun _ _=>true)
    have hth:t1=t'/\h1=h':=by
     have:=(a1 fun t2 h2=>@decide (t2=t1/\h2=h1) (Classical.propDecidable _))
     rw[e]at this
     simp at this
     exact⟨this.1.symm,this.2.symm⟩
    obtain⟨rfl,rfl⟩:=hth
    exact⟨a2,a3,fun ρ a w w0 Q A R hQ=>a4 ρ a w w0 id Q A R hQ⟩
   ·cases e1
 |scope d=>exact absurd rfl (hs d)
 |_=>cases e'
end
/--A FUNCTION:its body from its arguments on -/
theorem jl {P:Program} {f:FuncId} {fn:Func} {body:Code} {cc:CC} {rs:List Rs} {vs:List V} {h:H} {K:V->H->Prop} (hfn:P.funcs.toList[f]? =some fn) (hb:fn.body=some body) (hnm:(fn.name== "runtime.NumGoroutine")=false)
 (hcc:comp P fn.ntmps body=cc) (hrs:fn.results.toList.map (FO P)=rs) (hl1:vs.length<=fn.ntmps) (hl2:vs.length<=512)
 (ok:Ok P fn.ntmps cc (Ap vs 0 F.zero) h fun x t' h'=>match x with
   |.exit _=>False
   |_=>∃ us,(∀ k:List V->Bool,FE rs t' h' k=k us)/\K (one us) h'):BF P f vs h K:=by
 obtain⟨x,t',h',s,k⟩:=ok
 obtain⟨x2,x3,x4⟩:=s body hcc
 have hfn':P.funcs[f]? =some fn:=by simpa using hfn
 have hx:(x=.normal\/x=.ret)/\∃ us,(∀ k:List V->Bool,FE rs t' h' k=k us)/\K (one us) h':=by
  cases x with
  |exit id=>exact k.elim
  |normal=>exact⟨.inl rfl,k⟩
  |ret=>exact⟨.inr rfl,k⟩
 obtain⟨r2,us,r1,kk⟩:=hx
 obtain⟨us',q1,q2⟩:=HN (nt:=fn.ntmps) (fn:=fn) (P:=P) (t:=t') (h:=h') (k:=fun _=>true) (by rw[hrs,r1])
 have hus:us'=us:=by
  have:=q1 fun u=>@decide (u=us') (Classical.propDecidable _)
  rw[hrs,r1]at this
  simp at this
  exact this.symm
 subst hus
 refine⟨one us',h',⟨x2,x3,fun ρ w w0 args hargs R=>?_⟩,kk⟩
 have hal:=hargs.length
 obtain⟨t0,s1,s2,s3⟩:=Fc vs 0 F.zero (fun _=>true) (by omega)
 have ht0:t0=Ap vs 0 F.zero:=by
  have:=s1 fun u=>@decide (u=t0) (Classical.propDecidable _)
  rw[HX]at this
  simp at this
  exact this.symm
 constructor
 ·have hp:(program:Sem Program).run P w=.ok P w:=rfl
  unfold callFunc
  simp only[Sem.run_bind,hp,Result.andThen_ok,hfn',hnm,Bool.false_eq_true,if_false,hb,Option.isNone_some]
  rfl
 ·refine calls_of_wp hfn' hb ?_
  have A0:CS ρ fn.ntmps t0 {tmps:=args.toArray++Array.replicate (fn.ntmps-args.toArray.size) undef,defers:=[]}:=by
   refine⟨rfl,by simp;omega,fun m hm=>?_⟩
   by_cases hmv:m<vs.length
   ·have hv:vs[m]? =some (vs[m]'hmv):=by simp
    obtain⟨y,y1,y2⟩:=hargs.get hv
    have:=s2 m _ hv
    rw[Nat.zero_add]at this
    rw[this]
    have hy:(args.toArray++Array.replicate (fn.ntmps-args.toArray.size) undef).getD m undef=y:=by
     have hma:m<args.length:=by omega
     rw[Array.getD_eq_getD_getElem?,Array.getElem?_append_left (by simpa using hma)]
     simp[y1]
    rw[hy];exact y2
   ·rw[s3 m hm (.inr (by omega)),Kp];trivial
  rw[ht0]at A0
  refine x4 ρ _ w w0 _ A0 R fun ρ' a' w' hle A' R'=>?_
  obtain⟨y,y1,y2⟩:=q2 ρ' a' w' w0 A' R'
  rcases r2 with rfl|rfl
  ·exact⟨A'.defers,y,y2,y,rfl,ρ',hle,y1,R'⟩
  ·exact⟨A'.defers,y,y2,y,rfl,ρ',hle,y1,R'⟩
/--a function that the evaluator ran -/
theorem BF.UI {P:Program} {f:FuncId} (p:Dh P f) (h:H):BF P f [] h fun v h'=>v=.b true/\h'=h:=by
 refine⟨.b true,h,⟨Ax.refl h,Nat.le_refl _,fun ρ w w0 args hargs R=>?_⟩,rfl,rfl⟩
 have ha:args=[]:=by cases args<;>first|rfl|exact hargs.elim
 subst ha
 obtain⟨p1,p2⟩:=p w
 refine⟨p1,p2.mono fun e w' he=>?_⟩
 obtain⟨rfl,s1,s2,s3,s4,s5⟩:=he
 exact⟨_,rfl,ρ,Ext.refl _ ρ,rfl,R.grow s1 s2 s3 s4 s5⟩
end Go.Ev
namespace Go.Ev
open Go
structure FH (P:Program) (S:Spec) (l:List CO) (t:F) (h:H) (K:F->H->Prop):Prop where
 run:∃ t' h',(∀ k,DD (GH P S) l t h k=k t' h')/\K t' h'
structure Fs (P:Program) (S:Spec) (l:List CO) (t:F) (h:H) (K:F->H->Prop):Prop where
 run:∃ t' h',(∀ k,DE (GH P S) l t h k=k t' h')/\K t' h'
section
variable {P:Program} {S:Spec} {nt:Nat} {l:List CO} {t:F} {h:H} {K:F->H->Prop}
theorem Ok.ops {K:X->F->H->Prop} (k:FH P S l t h (K .normal)):Ok P nt (.region l) t h K:=by
 obtain⟨t',h',a1,a2⟩:=k
 exact Ok.region a1 a2
theorem FH.nil (k:K t h):FH P S [] t h K:=⟨t,h,fun _=>rfl,k⟩
theorem Fs.nil (k:K t h):Fs P S [] t h K:=⟨t,h,fun _=>rfl,k⟩
theorem FH.op {n:Nat} {b:Bool} {r:CG} {v:V} {h1:H} (e:∀ k,r (GH P S) t h k=k v h1) (k:FH P S l (put n v t) h1 K):FH P S (.mk .none (.some (AT n)) b (.mk r)::l) t h K:=by
 obtain⟨t',h',a1,a2⟩:=k
 refine⟨t',h',fun k=>?_,a2⟩
 show r (GH P S) t h (fun v h=>Jj (AT n) v t fun t=>DD (GH P S) l t h k)=_
 rw[e,El,a1]
theorem FH.op0 {b:Bool} {r:CG} {v:V} {h1:H} (e:∀ k,r (GH P S) t h k=k v h1) (k:FH P S l t h1 K):FH P S (.mk .none .none b (.mk r)::l) t h K:=by
 obtain⟨t',h',a1,a2⟩:=k
 refine⟨t',h',fun k=>?_,a2⟩
 show r (GH P S) t h (fun v h=>DD (GH P S) l t h k)=_
 rw[e,a1]
theorem FH.guard {g n:Nat} {w q:Bool} {b:Bool} {r:CR} (e:get g t=.b q) (k1:q=w->FH P S (.mk .none (.some (AT n)) b r::l) t h K) (k2:q=(!w)->FH P S l (put n (.tu []) t) h K):
 FH P S (.mk (.some (AT g) w) (.some (AT n)) b r::l) t h K:=by
 have e0:∀ k,DD (GH P S) (.mk (.some (AT g) w) (.some (AT n)) b r::l) t h k=vG (get g t) w fun x=>KE x r (.some (AT n)) (GH P S) (DD (GH P S) l) t h k:=fun _=>rfl
 have e1:∀ f,vG (.b q) w f=f (xor (xor q w) true):=fun _=>rfl
 by_cases hq:q=w
 ·obtain⟨t',h',a1,a2⟩:=k1 hq
  refine⟨t',h',fun k=>?_,a2⟩
  rw[e0,e,e1,hq]
  have:xor (xor w w) true=true:=by cases w<;>rfl
  rw[this]
  exact a1 k
 ·have hq':q=!w:=by cases q<;>cases w<;>simp_all
  obtain⟨t',h',a1,a2⟩:=k2 hq'
  refine⟨t',h',fun k=>?_,a2⟩
  rw[e0,e,e1,hq']
  have:xor (xor (!w) w) true=false:=by cases w<;>rfl
  rw[this]
  show Jj (AT n) (.tu []) t (fun t=>DD (GH P S) l t h k)=_
  rw[El,a1]
theorem FH.g1 {g n:Nat} {w:Bool} {b:Bool} {r:CR} (e:get g t=.b w) (k:FH P S (.mk .none (.some (AT n)) b r::l) t h K):FH P S (.mk (.some (AT g) w) (.some (AT n)) b r::l) t h K:=
 FH.guard e (fun _=>k) fun h=>by cases w<;>cases h
theorem D4 (t:F) (k:List V->Bool):∀ os:List O,Cr os t k=k (os.map fun o=>oV o t):=by
 intro os
 induction os generalizing k with
 |nil=>rfl
 |cons o os ih=>
  have e:Cr (o::os) t k=oK o t fun v=>Cr os t fun vs=>k (v::vs):=rfl
  rw[e,Au,ih];rfl
/--a call:by the function's specification -/
theorem FH.call {n:Nat} {b:Bool} {f:FuncId} {args:List O} {vs:List V} (e:args.map (fun o=>oV o t)=vs) (hf:BF P f vs h (S f vs h)) (k:∀ v h1,S f vs h v h1->FH P S l (put n v t) h1 K):
 FH P S (.mk .none (.some (AT n)) b (.mk (Ab f args))::l) t h K:=by
 obtain⟨v,h1,c1,c2⟩:=H8 hf
 refine FH.op (v:=v) (h1:=h1) (fun k=>?_) (k v h1 c2)
 show Cr args t (fun vs=>GH P S f vs h k)=_
 rw[D4,e,c1]
theorem Fs.HA {n:Nat} {r:CG} {v:V} {h1:H} (e:∀ k,r (GH P S) t h k=k v h1) (k:Fs P S l (put n v t) h1 K):Fs P S (.mk .none (.some (AT n)) true (.mk r)::l) t h K:=by
 obtain⟨t',h',a1,a2⟩:=k
 refine⟨t',h',fun k=>?_,a2⟩
 show r (GH P S) t h (fun v h=>Jj (AT n) v t fun t=>DE (GH P S) l t h k)=_
 rw[e,El,a1]
theorem Fs.op {n:Nat} {r:CG} {v:V} {h1:H} (e:∀ k,r (GH P S) t (Av h) k=k v h1) (k:Fs P S l (put n v t) (Bx h h1) K):Fs P S (.mk .none (.some (AT n)) false (.mk r)::l) t h K:=by
 obtain⟨t',h',a1,a2⟩:=k
 refine⟨t',h',fun k=>?_,a2⟩
 show r (GH P S) t (Av h) (fun v h2=>Jj (AT n) v t fun t=>DE (GH P S) l t (Bx h h2) k)=_
 rw[e,El,a1]
theorem Fs.guard {g n:Nat} {w q:Bool} {b:Bool} {r:CR} (e:get g t=.b q) (k1:q=w->Fs P S (.mk .none (.some (AT n)) b r::l) t h K) (k2:q=(!w)->Fs P S l (put n (.tu []) t) h K):
 Fs P S (.mk (.some (AT g) w) (.some (AT n)) b r::l) t h K:=by
 have e0:∀ k,DE (GH P S) (.mk (.some (AT g) w) (.some (AT n)) b r::l) t h k=vG (get g t) w fun x=>IS x b r (.some (AT n)) (GH P S) (DE (GH P S) l) t h k:=fun _=>rfl
 have e1:∀ f,vG (.b q) w f=f (xor (xor q w) true):=fun _=>rfl
 by_cases hq:q=w
 ·obtain⟨t',h',a1,a2⟩:=k1 hq
  refine⟨t',h',fun k=>?_,a2⟩
  rw[e0,e,e1,hq]
  have:xor (xor w w) true=true:=by cases w<;>rfl
  rw[this]
  exact a1 k
 ·have hq':q=!w:=by cases q<;>cases w<;>simp_all
  obtain⟨t',h',a1,a2⟩:=k2 hq'
  refine⟨t',h',fun k=>?_,a2⟩
  rw[e0,e,e1,hq']
  have:xor (xor (!w) w) true=false:=by cases w<;>rfl
  rw[this]
  show Jj (AT n) (.tu []) t (fun t=>DE (GH P S) l t h k)=_
  rw[El,a1]
theorem Fs.g1 {g n:Nat} {w:Bool} {b:Bool} {r:CR} (e:get g t=.b w) (k:Fs P S (.mk .none (.some (AT n)) b r::l) t h K):Fs P S (.mk (.some (AT g) w) (.some (AT n)) b r::l) t h K:=
 Fs.guard e (fun _=>k) fun h=>by cases w<;>cases h
theorem Fs.call {n:Nat} {f:FuncId} {args:List O} {vs:List V} (e:args.map (fun o=>oV o t)=vs) (hf:BF P f vs (Av h) (S f vs (Av h))) (k:∀ v h1,S f vs (Av h) v h1->Fs P S l (put n v t) (Bx h h1) K):
 Fs P S (.mk .none (.some (AT n)) false (.mk (Ab f args))::l) t h K:=by
 obtain⟨v,h1,c1,c2⟩:=H8 hf
 refine Fs.op (v:=v) (h1:=h1) (fun k=>?_) (k v h1 c2)
 show Cr args t (fun vs=>GH P S f vs (Av h) k)=_
 rw[D4,e,c1]
end
section
variable {K':F->H->Prop} {K:X->F->H->Prop} {t:F} {h:H} {id j:Nat}
theorem qe:Out id K .normal t h=K .normal t h:=rfl
theorem uZ:Out id K (.exit j) t h=if j=id then K .normal t h else K (.exit j) t h:=rfl
theorem jv:Out id K .ret t h=K .ret t h:=rfl
end
section
variable (cf:Bn) (t:F) (h:H) (k:V->H->Bool) (o x y c:O)
theorem Ug:AA o cf t h k=k (oV o t) h:=by simp only[AA,Au]
theorem Ut:Ag c x y cf t h k=vB (oV c t) fun q=>k (cond q (oV x t) (oV y t)) h:=by
 simp only[Ag,AQ,Au]
 congr 1;funext q;cases q<;>rfl
theorem bG (f:E5):AM f x y cf t h k=vI (oV x t) fun kd a=>vI (oV y t) fun kd' b=>At (CE kd kd') fun _=>f kd a b fun v=>k v h:=by simp only[AM,AQ]
theorem Wk:Bz x cf t h k=vB (oV x t) fun a=>k (.b (!a)) h:=by simp only[Bz,AQ,Cg]
theorem VK (ne:Bool):F4 ne x y cf t h k=vB (oV x t) fun a=>vB (oV y t) fun b=>k (.b (xor ne (xor (xor a b) true))) h:=by simp only[F4,AQ,Cg]
theorem N4 (j:Nat):A2 j x cf t h k=vT (oV x t) fun vs=>CJ (vs[j]?) fun v=>k v h:=by simp only[A2,AQ,BG]
theorem Tt:CY x cf t h k=vS (oV x t) fun n _=>k (.i .i64 (.ofNat n)) h:=by simp only[CY,AQ]
theorem VD:AK o cf t h k=vP (oV o t) fun id g off fin=>DT h id g off fin fun v=>k v h:=by simp only[AK,AQ]
theorem RS (size:Nat):AR size o cf t h k=vP (oV o t) fun id g off fin=>Bk h id g off fin size fun vs=>k (.a vs) h:=by simp only[AR,AQ]
theorem Lc (d:Nat):AF d o cf t h k=vP (oV o t) fun id g off fin=>k (.p id g (off+d) fin) h:=by simp only[AF,AQ,A5];rfl
theorem SO (d:Nat):Gp d o cf t h k=vA (oV o t) fun cs=>CJ (cs[d]?) fun v=>k v h:=by simp only[Gp,AQ,BG]
theorem QB (d size:Nat):FY d size o cf t h k=vA (oV o t) fun cs=>k (.a ((cs.drop d).take size)) h:=by simp only[FY,AQ]
theorem Mj:AZ o cf t h k=vP (oV o t) fun id g off fin=>k (.p id g off fin) h:=by simp only[AZ,AQ]
theorem Yr:Iu x y cf t h k=vI (oV x t) fun kd a=>vI (oV y t) fun kd' b=>At (CE kd kd') fun _=>k (.i kd (min a b)) h:=by
 simp only[Iu,AQ,EP]
 congr 1;funext kd a;congr 1;funext kd' b
 congr 1;funext _
 by_cases hba:b<a
 ·simp[hba,A3];rw[Int.min_eq_right (by omega)]
 ·simp[hba,A3];rw[Int.min_eq_left (by omega)]
theorem Wc:ES x y cf t h k=vI (oV x t) fun kd a=>vI (oV y t) fun kd' b=>At (CE kd kd') fun _=>k (.i kd (max a b)) h:=by
 simp only[ES,AQ,EP]
 congr 1;funext kd a;congr 1;funext kd' b
 congr 1;funext _
 by_cases hba:a<b
 ·simp[hba,A3];rw[Int.max_eq_right (by omega)]
 ·simp[hba,A3];rw[Int.max_eq_left (by omega)]
end
section
variable (kd:IntKind) (a b:Int) (k:V->Bool)
theorem vK:A4 kd a b k=k (.i kd (kd.wrap (a+b))):=CK _ _ _
theorem pn:Bp kd a b k=k (.i kd (kd.wrap (a-b))):=CK _ _ _
theorem kz:HP kd a b k=k (.i kd (kd.wrap (a*b))):=CK _ _ _
theorem pj:BV kd a b k=k (.b (decide (a<b))):=by simp only[BV,Cg,EP]
theorem oy:Cj kd a b k=k (.b (decide (b<a))):=by simp only[Cj,Cg,EP]
theorem v7:Ds kd a b k=k (.b (decide (a<=b))):=by
 simp only[Ds,Cg,EP];congr 2
 by_cases h:b<a
 ·simp[h]
 ·simp[h];omega
theorem nX:Dc kd a b k=k (.b (decide (b<=a))):=by
 simp only[Dc,Cg,EP];congr 2
 by_cases h:a<b
 ·simp[h]
 ·simp[h];omega
theorem xK:DR kd a b k=k (.b (decide (a=b))):=by simp only[DR,Cg,EN];congr 2
theorem m8:Ip kd a b k=k (.b (!decide (a=b))):=by simp only[Ip,Cg,EN];congr 2
end
theorem BT (kd:IntKind):CE kd kd=true:=by cases kd<;>rfl
theorem wrap_i64 {n:Int} (h1: -9223372036854775808<=n) (h2:n<=9223372036854775807):IntKind.i64.wrap n=n:=by
 cases n with
 |ofNat m=>exact wrap_small .i64 m (by show m<=9223372036854775807;simp at h2;omega)
 |negSucc m=>
  simp only[IntKind.wrap,IntKind.bits,IntKind.signed]
  have e:Int.negSucc m%(2 ^ 64:Int)=2 ^ 64-(m+1):=by omega
  simp[e]
  omega
def GZ (Ao:Option Gi) (g off:Nat):Option V:=match Ao with
 |some b=>if b.min<=g then b.cells.BN off else none
 |none=>none
def cell (h:H) (id:B) (g off:Nat):Option V:=GZ (h.heap.get id) g off
theorem HQ {h:H} {id:B} {g off fin:Nat} {v:V} (hc:cell h id g off=some v) (hf:off<fin) (k:V->Bool):DT h id g off fin k=k v:=by
 obtain⟨next,floor,heap⟩:=h
 unfold cell GZ at hc
 simp only at hc
 split at hc
 ·rename_i Ao hb
  obtain⟨cur,min,size,cells,el,fr⟩:=Ao
  simp only at hc
  split at hc
  ·rename_i hm
   have h1:Nat.ble min g=true:=by rw[Nat.ble_eq];exact hm
   have h2:Nat.ble (Nat.succ off) fin=true:=by rw[Nat.ble_eq];exact hf
   simp only[DT,CN,hb,Aq,BH,h1,h2,AH,hc,BG]
  ·cases hc
 ·cases hc
theorem G5 (cells:T V):∀ (n off:Nat) (vs:List V) (k:List V->Bool),vs.length=n->(∀ i v,vs[i]? =some v->cells.BN (off+i)=some v)->FA n cells off k=k vs
 |0,off,vs,k,hl,_=>by
  have:vs=[]:=List.eq_nil_of_length_eq_zero hl
  subst this;rfl
 |n+1,off,vs,k,hl,hv=>by
  cases vs with
  |nil=>simp at hl
  |cons v vs=>
   have e:FA (n+1) cells off k=CJ (cells.BN off) fun v=>FA n cells (off+1) fun vs=>k (v::vs):=rfl
   have h0:=hv 0 v rfl
   rw[Nat.add_zero]at h0
   rw[e,h0,Aq,G5 cells n (off+1) vs _ (by simpa using hl) fun i u hu=>by have:=hv (i+1) u (by simpa using hu);rwa [show off+(i+1)=off+1+i by omega]at this]
/--some cells,one behind the other -/
def Row (h:H) (id:B) (g off:Nat) (vs:List V):Prop:=(vs≠[]->∃ b,h.heap.get id=some b/\b.min<=g)/\∀ i v,vs[i]? =some v->cell h id g (off+i)=some v
theorem DB {h:H} {id:B} {g off fin n:Nat} {vs:List V} (hr:Row h id g off vs) (hn:vs.length=n) (hne:vs≠[]) (hf:off+n<=fin) (k:List V->Bool):Bk h id g off fin n k=k vs:=by
 obtain⟨next,floor,heap⟩:=h
 obtain⟨hr1,hc⟩:=hr
 obtain⟨b,hb,hm⟩:=hr1 hne
 obtain⟨cur,min,size,cells,el,fr⟩:=b
 have h1:Nat.ble min g=true:=by rw[Nat.ble_eq];exact hm
 have h2:Nat.ble (Nat.add off n) fin=true:=by rw[Nat.ble_eq];exact hf
 simp only[Bk,CN]
 have hb':heap.get id=some ⟨cur,min,size,cells,el,fr⟩:=hb
 simp only[hb',Aq,BH,h1,h2,AH]
 refine G5 cells n off vs k hn fun i v hv=>?_
 have:=hc i v hv
 unfold cell GZ at this
 simp only[hb']at this
 rwa [if_pos hm]at this
theorem Kv:∀ (f n:Nat) (x:V) (t:T V) (k:T V->Bool),n+1<2 ^ f->(∀ t',k t'=true)->T.GP f x t n k=true:=by
 intro f
 induction f with
 |zero=>intro n x t k h;simp at h
 |succ f ih=>
  intro n x t k h hk
  cases n with
  |zero=>cases t<;>exact hk _
  |succ m=>
   have e:T.GP (f+1) x t (m+1) k=cJ (m%2) m (T.GP f) x t k:=rfl
   have hm:m/2+1<2 ^ f:=by rw[Nat.pow_succ]at h;omega
   rw[e]
   rcases Nat.mod_two_eq_zero_or_one m with hp|hp
   ·have e2:cJ (m%2) m (T.GP f) x t k=nO t (T.GP f) x (m/2) k:=by rw[hp];rfl
    rw[e2]
    cases t with
    |o=>exact ih _ _ _ _ hm fun _=>hk _
    |n l v r=>exact ih _ _ _ _ hm fun _=>hk _
   ·have e2:cJ (m%2) m (T.GP f) x t k=nI t (T.GP f) x (m/2) k:=by rw[hp];rfl
    rw[e2]
    cases t with
    |o=>exact ih _ _ _ _ hm fun _=>hk _
    |n l v r=>exact ih _ _ _ _ hm fun _=>hk _
theorem Bt:∀ (vs:List V) (n:Nat) (t:T V),n+vs.length<2 ^ 38->∃ t',(∀ k,Cu vs n t k=k t')/\(∀ i v,vs[i]? =some v->t'.BN (n+i)=some v)/\∀ m,m<n\/n+vs.length<=m->t'.BN m=t.BN m:=by
 have fine:∀ (vs:List V) (n:Nat) (t:T V) (k:T V->Bool),n+vs.length<2 ^ 38->(∀ t',k t'=true)->Cu vs n t k=true:=by
  intro vs
  induction vs with
  |nil=>intro n t k _ hk;exact hk t
  |cons v vs ih=>
   intro n t k hl hk
   exact Kv 40 n v t _ (by simp at hl;omega) fun t'=>ih (n+1) t' k (by simp at hl;omega) hk
 intro vs n t hl
 exact E4 vs n t (fun _=>true) (fine vs n t _ hl fun _=>rfl)
/--what of a state stays:all blocks that there are,but those of which p holds -/
structure AU (p:B->Prop) (h h':H):Prop where
 floor:h'.floor=h.floor
 next:B.val h.next<=B.val h'.next
 get:∀ id,B.val id<B.val h.next->¬p id->h'.heap.get id=h.heap.get id
theorem AU.refl (p:B->Prop) (h:H):AU p h h:=⟨rfl,Nat.le_refl _,fun _ _ _=>rfl⟩
theorem AU.trans {p:B->Prop} {a b c:H} (x:AU p a b) (y:AU p b c):AU p a c:=
 ⟨y.floor.trans x.floor,Nat.le_trans x.next y.next,fun id h1 h2=>(y.get id (Nat.lt_of_lt_of_le h1 x.next) h2).trans (x.get id h1 h2)⟩
theorem AU.mono {p q:B->Prop} {a b:H} (x:AU p a b) (h:∀ id,B.val id<B.val a.next->p id->q id):AU q a b:=⟨x.floor,x.next,fun id h1 h2=>x.get id h1 fun h3=>h2 (h id h1 h3)⟩
def AO:B->Prop:=fun _=>False
theorem AU.cell {p:B->Prop} {h h':H} (x:AU p h h') {id:B} (h1:B.val id<B.val h.next) (h2:¬p id) (g off:Nat):cell h' id g off=cell h id g off:=by
 unfold Ev.cell;rw[x.get id h1 h2]
/--a new block -/
theorem DY (el:Nat) (cs:List V) (h:H) (hl:cs.length<2 ^ 38):∃ h',(∀ k,alloc el cs h k=k h.next h')/\AU AO h h'/\B.val h'.next=B.val h.next+1/\
 (∃ b,h'.heap.get h.next=some b/\b.min=0/\b.cur=0/\b.size=cs.length/\b.el=el/\b.fr=0/\∀ i v,cs[i]? =some v->b.cells.BN i=some v):=by
 obtain⟨next,floor,heap⟩:=h
 obtain⟨tr,t1,t2,t3⟩:=Bt cs 0 .o (by omega)
 obtain⟨hp,s1,s2,s3⟩:=Bu next (⟨0,0,cs.length,tr,el,0⟩:Gi) heap
 obtain⟨nx,n1,n2⟩:=Gl next
 refine⟨⟨nx,floor,hp⟩,fun k=>?_,⟨rfl,by show B.val next<=B.val nx;omega,fun id h1 _=>s3 id fun e=>by rw[e]at h1;exact absurd h1 (Nat.lt_irrefl _)⟩,n2,⟨0,0,cs.length,tr,el,0⟩,s2,rfl,rfl,rfl,rfl,rfl,fun i v hv=>?_⟩
 ·show fN cs.length (fun sz=>Cu cs 0 .o fun t=>T.HD next ⟨0,0,sz,t,el,0⟩ heap fun heap=>B.SK next fun next'=>k next ⟨next',floor,heap⟩)=_
  rw[A5,t1,s1,n1]
 ·have:=t2 i v hv
  rwa [Nat.zero_add]at this
/--the slice v reads as the cells xs (elements of one cell) -/
def F5 (h:H) (v:V) (xs:List V):Prop:=
 (v=.l0/\xs=[])\/∃ id g off fin cap,v=.l id g off xs.length fin cap/\off+xs.length<=fin/\B.val id<B.val h.next/\Row h id g off xs
def Ft:V->B|.l id _ _ _ _ _=>id|_=>.h
def lg:V->Nat|.l _ g _ _ _ _=>g|_=>0
def Ci:V->Nat|.l _ _ off _ _ _=>off|_=>0
def Cm:V->Nat|.l _ _ _ _ fin _=>fin|_=>0
def QE (v:V) (k:Nat->Bool):Bool:=vL v (fun _=>k 0) fun _ _ _ n _ _=>k n
def Mm (size:Nat) (v:V) (n:Nat) (k:V->Bool):Bool:=vL v (fun _=>false) fun id g off len fin _=>At (Nat.ble (n+1) len) fun _=>k (.p id g (off+n*size) fin)
theorem aN (x:O) (cf:Bn) (t:F) (h:H) (k:V->H->Bool):A9 x cf t h k=QE (oV x t) fun n=>k (.i .i64 (n:Int)) h:=by simp only[A9,AQ];rfl
theorem Xg (size:Nat) (o x:O) (cf:Bn) (t:F) (h:H) (k:V->H->Bool):AG size o x cf t h k=vI (oV x t) fun _ n=>A6 n fun n=>Mm size (oV o t) n fun p=>k p h:=by
 have no:∀ u:V,(vI u fun _ n=>A6 n fun _=>false)=false:=by
  intro u
  cases u<;>first|rfl|(rename_i kd n;cases n<;>rfl)
 simp only[AG,AQ]
 generalize oV o t=v
 generalize oV x t=u
 have hn:∀ w:V,(∀ z k,vL w z k=false)->(vI u fun _ n=>A6 n fun n=>Mm size w n fun p=>k p h)=false:=by
  intro w hw
  have:(fun(_:IntKind) (n:Int)=>A6 n fun n=>Mm size w n fun p=>k p h)=fun _ n=>A6 n fun _=>false:=by
   funext _ n;congr 1;funext n;exact hw _ _
  rw[this];exact no u
 cases v with
 |l id g off len fin cap=>simp only[C4,A5];rfl
 |l0=>
  have:(vI u fun _ n=>A6 n fun n=>Mm size .l0 n fun p=>k p h)=false:=no u
  rw[this];rfl
 |_=>rw[hn _ fun _ _=>rfl];rfl
theorem Bd (i:Nat) (k:Nat->Bool):A6 (i:Int) k=k i:=rfl
theorem F5.len {h0:H} {v:V} {xs:List V} (a:F5 h0 v xs) (k:Nat->Bool):QE v k=k xs.length:=by
 rcases a with⟨rfl,rfl⟩|⟨id,g,off,fin,cap,rfl,_⟩<;>rfl
theorem F5.idx {h0:H} {v:V} {xs:List V} {i:Nat} (a:F5 h0 v xs) (hi:i<xs.length) (k:V->Bool):Mm 1 v i k=k (.p (Ft v) (lg v) (Ci v+i) (Cm v)):=by
 rcases a with⟨rfl,rfl⟩|⟨id,g,off,fin,cap,rfl,_⟩
 ·simp at hi
 ·have h1:Nat.ble (i+1) xs.length=true:=by rw[Nat.ble_eq];exact hi
  show At (Nat.ble (i+1) xs.length) (fun _=>k (.p id g (off+i*1) fin))=_
  rw[h1,AH,Nat.mul_one];rfl
theorem Fb {h:H} {v:V} {xs:List V} {i:Nat} {y:V} (a:F5 h v xs) (hy:xs[i]? =some y) (k:V->Bool):DT h (Ft v) (lg v) (Ci v+i) (Cm v) k=k y:=by
 have hi:=(List.getElem?_eq_some_iff.1 hy).1
 rcases a with⟨rfl,rfl⟩|⟨id,g,off,fin,cap,rfl,h2,_,h4⟩
 ·simp at hi
 ·exact HQ (h4.2 i y hy) (by show off+i<fin;omega) k
theorem Row.stay {p:B->Prop} {h h':H} {id:B} {g off:Nat} {vs:List V} (r:Row h id g off vs) (s:AU p h h') (h1:B.val id<B.val h.next) (h2:¬p id):Row h' id g off vs:=by
 obtain⟨r1,r2⟩:=r
 exact⟨(fun hne=>by obtain⟨b,b1,b2⟩:=r1 hne;exact⟨b,(s.get id h1 h2).trans b1,b2⟩),fun i v hv=>(s.cell h1 h2 g (off+i)).trans (r2 i v hv)⟩
theorem F5.stay {p:B->Prop} {h h':H} {v:V} {xs:List V} (a:F5 h v xs) (s:AU p h h') (hp:∀ id g off n fin cap,v=.l id g off n fin cap->¬p id):F5 h' v xs:=by
 rcases a with⟨rfl,rfl⟩|⟨id,g,off,fin,cap,rfl,h2,h3,h4⟩
 ·exact .inl ⟨rfl,rfl⟩
 ·exact .inr ⟨id,g,off,fin,cap,rfl,h2,Nat.lt_of_lt_of_le h3 s.next,h4.stay s h3 (hp _ _ _ _ _ _ rfl)⟩
theorem F5.grow {h h':H} {v:V} {xs:List V} (a:F5 h v xs) (s:AU AO h h'):F5 h' v xs:=a.stay s fun _ _ _ _ _ _ _=>id
/--a slice of bools -/
def Bl (h:H) (v:V) (R:List Bool):Prop:=F5 h v (R.map V.b)
theorem Bl.grow {h h':H} {v:V} {R:List Bool} (a:Bl h v R) (s:AU AO h h'):Bl h' v R:=F5.grow a s
theorem Bl.len {h0:H} {v:V} {R:List Bool} (a:Bl h0 v R) (k:Nat->Bool):QE v k=k R.length:=by
 rw[F5.len a];simp
theorem Bl.rd {h:H} {v:V} {R:List Bool} {i:Nat} (a:Bl h v R) (hi:i<R.length) (k:V->Bool):DT h (Ft v) (lg v) (Ci v+i) (Cm v) k=k (.b (R.getD i false)):=
 Fb a (by simp[hi]) k
/--a slice of slices of bools -/
def Mx (h:H) (v:V) (M:List (List Bool)):Prop:=∃ rows,F5 h v rows/\rows.length=M.length/\∀ i r,rows[i]? =some r->Bl h r (M.getD i [])
theorem Mx.grow {h h':H} {v:V} {M:List (List Bool)} (a:Mx h v M) (s:AU AO h h'):Mx h' v M:=by
 obtain⟨rows,r1,r2,r3⟩:=a
 exact⟨rows,r1.grow s,r2,fun i r hr=>(r3 i r hr).grow s⟩
theorem Mx.len {h0:H} {v:V} {M:List (List Bool)} (a:Mx h0 v M) (k:Nat->Bool):QE v k=k M.length:=by
 obtain⟨rows,r1,r2,r3⟩:=a
 rw[r1.len,r2]
theorem Mx.rd {h:H} {v:V} {M:List (List Bool)} {i:Nat} (a:Mx h v M) (hi:i<M.length):∃ r,Bl h r (M.getD i [])/\∀ k:V->Bool,DT h (Ft v) (lg v) (Ci v+i) (Cm v) k=k r:=by
 obtain⟨rows,r1,r2,r3⟩:=a
 have hi':i<rows.length:=by omega
 have hr:rows[i]? =some rows[i]:=by simp
 exact⟨rows[i],r3 i _ hr,Fb r1 hr⟩
theorem wU (n:Nat) (t:F) (h:H) (k:List V->Bool):FE [Rs.tmp (AT n)] t h k=k [get n t]:=by
 show Bh (Bm (AT n) t) (fun v=>k [v])=_
 rw[BG];rfl
theorem yR (n m:Nat) (t:F) (h:H) (k:List V->Bool):FE [Rs.tmp (AT n),Rs.tmp (AT m)] t h k=k [get n t,get m t]:=by
 show Bh (Bm (AT n) t) (fun v=>Bh (Bm (AT m) t) fun u=>k [v,u])=_
 rw[BG,BG];rfl
theorem nv (v:V):one [v]=v:=rfl
theorem qq (v u:V):one [v,u]=.tu [v,u]:=rfl
theorem Row.grow {h h':H} {id:B} {g off:Nat} {vs:List V} (r:Row h id g off vs) (s:AU AO h h') (h1:B.val id<B.val h.next):Row h' id g off vs:=r.stay s h1 fun h=>h
theorem FH.box {P:Program} {S:Spec} {l:List CO} {t:F} {h:H} {K:F->H->Prop} {n:Nat} {b:Bool} {el:Nat} {o:O} {v:V} (e:oV o t=v) (hk:FF v=true) (hl:(cells v).length<2 ^ 38)
 (k:∀ h1 id,AU AO h h1->B.val id<B.val h1.next->B.val h.next<=B.val id->Row h1 id 0 0 (cells v)->FH P S l (put n (.p id 0 0 (cells v).length) t) h1 K):FH P S (.mk .none (.some (AT n)) b (.mk (Cf el o))::l) t h K:=by
 obtain⟨h1,a1,a2,a3,Ao,b1,b2,b3,b4,b5,b6,b7⟩:=DY el (cells v) h hl
 refine FH.op (v:=.p h.next 0 0 (cells v).length) (h1:=h1) (fun k=>?_) (k h1 h.next a2 (by omega) (Nat.le_refl _) ⟨fun _=>⟨Ao,b1,by omega⟩,fun i y hy=>?_⟩)
 ·show Cf el o _ t h k=_
  simp only[Cf,Au,e,hk,AH,a1]
 ·unfold Ev.cell GZ
  rw[b1]
  show(if Ao.min<=0 then Ao.cells.BN (0+i)else none)=some y
  rw[if_pos (by omega),Nat.zero_add]
  exact b7 i y hy
/--A FUNCTION,as it is compiled -/
theorem eP {P:Program} {f:FuncId} {nt:Nat} {cc:CC} {rs:List Rs} {vs:List V} {h:H} {K:V->H->Prop} (hc:AY P f=⟨nt,cc,rs⟩) (hbad:cc≠.bad) (hl1:vs.length<=nt) (hl2:vs.length<=512)
 (ok:Ok P nt cc (Ap vs 0 F.zero) h fun x t' h'=>match x with
   |.exit _=>False
   |_=>∃ us,(∀ k:List V->Bool,FE rs t' h' k=k us)/\K (one us) h'):BF P f vs h K:=by
 unfold AY at hc
 split at hc
 ·cases hc;exact absurd rfl hbad
 ·rename_i fn hfn
  split at hc
  ·rename_i b hb hnm
   cases hc
   exact jl hfn hb hnm rfl rfl hl1 hl2 ok
  ·cases hc;exact absurd rfl hbad
end Go.Ev
namespace Go.Ev
open Go
def nb:Nat->B
 |0=>.h
 |n+1=>Classical.choose (Gl (nb n))
theorem En:∀ n,B.val (nb n)=n+1
 |0=>rfl
 |n+1=>by
  have:=(Classical.choose_spec (Gl (nb n))).2
  show B.val (Classical.choose (Gl (nb n)))=_
  rw[this,En n]
theorem TG {m n:Nat} (h:nb m=nb n):m=n:=by
 have:=congrArg B.val h
 rw[En,En]at this;omega
def JX (W:World) (n:Nat):Nat:=match W.heap[n]? with
 |some (.cells c _ _)=>c.size
 |_=>0
open Classical in
def Li (W:World):BC:=fun id g=>if e:g=0/\∃ n,n<W.heap.size/\id=nb n then some ⟨Classical.choose e.2,0,JX W (Classical.choose e.2),JX W (Classical.choose e.2),none⟩else none
theorem Lq {W:World} {n:Nat} (h:n<W.heap.size):Li W (nb n) 0=some ⟨n,0,JX W n,JX W n,none⟩:=by
 have e:(0:Nat)=0/\∃ m,m<W.heap.size/\nb n=nb m:=⟨rfl,n,h,rfl⟩
 unfold Li
 rw[dif_pos e]
 have:=TG (Classical.choose_spec e.2).2
 rw[<-this]
theorem Ey {W:World} {id:B} {g:Nat} {L:Loc} (h:Li W id g=some L):∃ n,n<W.heap.size/\id=nb n/\g=0/\L=⟨n,0,JX W n,JX W n,none⟩:=by
 unfold Li at h
 split at h
 ·rename_i e
  cases h
  exact⟨_,(Classical.choose_spec e.2).1,(Classical.choose_spec e.2).2,e.1,rfl⟩
 ·cases h
def Cs (W:World):Value->V
 |.bool b=>.b b
 |.int k n=>.i k n
 |.string bs=>.s bs.size (pk bs.data.toList)
 |.pointer none=>.p0
 |.pointer (some ⟨b,off,none⟩)=>open Classical in if b<W.heap.size then .p (nb b) 0 off (JX W b)else .u
 |.slice none 0 0=>.l0
 |.slice (some ⟨b,off,none⟩) (n+1) cap=>open Classical in if b<W.heap.size/\n+1<=cap/\cap<18446744073709551616 then .l (nb b) 0 off (n+1) (JX W b) (some cap)else .u
 |.slice (some _) 0 _=>open Classical in if 0<W.heap.size then .l (nb 0) 0 0 0 0 none else .u
 |.nilFunc=>.f0
 |.nilIface=>.x0
 |.map none=>.m0
 |_=>.u
theorem Ge (W:World) (x:Value):A1 (Li W) (Cs W x) x:=by
 unfold Cs
 split
 ·rfl
 ·rfl
 ·rename_i bs
  refine⟨bs,rfl,rfl,IZ _⟩
 ·rfl
 ·split
  ·rename_i h
   exact⟨_,Lq h,rfl,Nat.zero_le _,Nat.le_refl _⟩
  ·trivial
 ·rfl
 ·split
  ·rename_i h
   exact⟨_,_,_,Lq h.1,rfl,h.2.1,Nat.zero_le _,Nat.le_refl _,.inr rfl,(fun d hd _=>by cases hd;rfl),(fun hd=>absurd hd (Oz.no h.2.2))⟩
  ·trivial
 ·split
  ·rename_i h
   exact⟨_,_,_,Lq h,rfl,Nat.zero_le _,Nat.zero_le _,Nat.zero_le _,.inl ⟨rfl,.inl rfl⟩,(fun d hd=>by cases hd),(fun _=>.inl ⟨rfl,rfl⟩)⟩
  ·trivial
 ·rfl
 ·rfl
 ·rfl
 ·trivial
theorem Tu (vs:List V):∃ t:T V,∀ (i:Nat) v,vs[i]? =some v->t.BN i=some v:=by
 have key:∀ n,∃ t:T V,∀ (i:Nat) v,i<n->vs[i]? =some v->t.BN i=some v:=by
  intro n
  induction n with
  |zero=>exact⟨.o,fun i v h=>absurd h (Nat.not_lt_zero i)⟩
  |succ n ih=>
   obtain⟨t,ht⟩:=ih
   cases hv:vs[n]? with
   |none=>exact⟨t,fun i v hi h=>by
     by_cases e:i=n
     ·subst e;rw[hv]at h;cases h
     ·exact ht i v (by omega) h⟩
   |some x=>
    obtain⟨t',h1,h2,h3⟩:=OW (n+2) x t n (fun _=>true) (Kv (n+2) n x t _ (Nat.lt_trans (Nat.lt_succ_self _) Nat.lt_two_pow_self) fun _=>rfl)
    refine⟨t',fun i v hi h=>?_⟩
    by_cases e:i=n
    ·subst e;rw[hv]at h;cases h;exact h2
    ·rw[h3 i e];exact ht i v (by omega) h
 obtain⟨t,ht⟩:=key vs.length
 exact⟨t,fun i v h=>ht i v (List.getElem?_eq_some_iff.1 h).1 h⟩
/--what is known of the n-th block -/
def NJ (W:World) (n:Nat) (b:Gi):Prop:=b.cur=0/\b.size=JX W n/\match W.heap[n]? with
 |some (.cells c el fz)=>b.min=0/\b.el=el/\b.fr=fz.2+2/\∀ (i:Nat) x,c[i]? =some x->b.cells.BN i=some (Cs W x)
 |_=>b.min=1
theorem Zx (W:World) (n:Nat):∃ b,NJ W n b:=by
 unfold NJ JX
 cases h:W.heap[n]? with
 |none=>exact⟨⟨0,1,0,.o,0,0⟩,rfl,rfl,rfl⟩
 |some o=>
  cases o with
  |cells c el fz=>
   obtain⟨t,ht⟩:=Tu (c.toList.map (Cs W))
   refine⟨⟨0,0,c.size,t,el,fz.2+2⟩,rfl,rfl,rfl,rfl,rfl,fun i x hx=>ht i _ ?_⟩
   simp[hx]
  |_=>exact⟨⟨0,1,0,.o,0,0⟩,rfl,rfl,rfl⟩
theorem Th (W:World):∀ k,∃ hp:T Gi,∀ n,n<k->∃ b,hp.get (nb n)=some b/\NJ W n b:=by
 intro k
 induction k with
 |zero=>exact⟨.o,fun n h=>absurd h (Nat.not_lt_zero n)⟩
 |succ k ih=>
  obtain⟨hp,h⟩:=ih
  obtain⟨b,hb⟩:=Zx W k
  obtain⟨hp',s1,s2,s3⟩:=Bu (nb k) b hp
  refine⟨hp',fun n hn=>?_⟩
  by_cases e:n=k
  ·subst e;exact⟨b,s2,hb⟩
  ·obtain⟨b',h1,h2⟩:=h n (by omega)
   exact⟨b',(s3 _ fun he=>e (TG he)).trans h1,h2⟩
/--THE STATE THAT A CALL BEGINS IN -/
theorem start (W:World):∃ h:H,A8 (Li W) h W W/\∀ n,n<W.heap.size->B.val (nb n)<B.val h.next/\B.val (nb n)<B.val h.floor/\∃ b,h.heap.get (nb n)=some b/\NJ W n b:=by
 obtain⟨hp,hh⟩:=Th W W.heap.size
 refine⟨⟨nb W.heap.size,nb W.heap.size,hp⟩,⟨?_,?_,?_,Nat.le_refl _,fun _ _=>rfl,?_,rfl,rfl,rfl,Nat.le_refl _,?_,?_⟩,fun n hn=>⟨by show B.val (nb n)<B.val (nb _);rw[En,En];omega,by show B.val (nb n)<B.val (nb _);rw[En,En];omega,hh n hn⟩⟩
 ·intro id g L hL
  obtain⟨n,hn,rfl,rfl,rfl⟩:=Ey hL
  obtain⟨b,b1,b2,b3,b4⟩:=hh n hn
  refine⟨b,b1,by omega,hn,Nat.zero_le _,fun _=>by show JX W n<=b.size;omega,fun _=>b3.symm,fun hm=>?_⟩
  cases hx:W.heap[n]? with
  |none=>rw[Array.getElem?_eq_none_iff]at hx;omega
  |some o=>
   rw[hx]at b4
   cases o with
   |cells c el fz=>
    obtain⟨c1,c2,c3,c4⟩:=b4
    have hcs:JX W n=c.size:=by unfold JX;rw[hx]
    refine⟨c,el,⟨c2.symm,fz,hx,?_⟩,hcs.symm,by show JX W n-0<=JX W n;omega,fun i _ hi=>?_⟩
    ·rw[c3];exact .inr (Nat.le_refl _)
    ·have hi':i<c.size:=by rw[<-hcs];exact hi
     have hxi:c[i]? =some (c[i]'hi'):=by simp
     exact⟨Cs W c[i],c[i],c4 i _ hxi,by simpa using hxi,Ge W _⟩
   |_=>exact absurd hm (by rw[b4];exact Nat.not_succ_le_zero 0)
 ·intro id g L hL
  obtain⟨n,hn,rfl,rfl,rfl⟩:=Ey hL
  show B.val (nb n)<B.val (nb _)
  rw[En,En];omega
 ·intro id g L id' g' L' hL hL' hb
  obtain⟨n,hn,rfl,rfl,rfl⟩:=Ey hL
  obtain⟨n',hn',rfl,rfl,rfl⟩:=Ey hL'
  have:n=n':=hb
  subst this;exact⟨rfl,rfl⟩
 ·intro id g L hL hf
  obtain⟨n,hn,rfl,rfl,rfl⟩:=Ey hL
  have:B.val (nb W.heap.size)<=B.val (nb n):=hf
  rw[En,En]at this;omega
 ·intro id L Ao hL h2 h3
  obtain⟨n,hn,rfl,_,rfl⟩:=Ey hL
  obtain⟨b,b1,b2,b3,b4⟩:=hh n hn
  have hbe:hp.get (nb n)=some Ao:=h2
  rw[b1]at hbe
  cases hbe
  have:Ao.min<=1:=by
   revert b4
   split
   ·rintro⟨e,_⟩;omega
   ·intro e;omega
  omega
 ·intro id g L Ao ob hL h2 hg h3 h5
  obtain⟨n,hn,rfl,_,rfl⟩:=Ey hL
  cases h5
/--where it begins -/
structure Start (W:World) (h:H):Prop where
 rel:A8 (Li W) h W W
 Ao:∀ n,n<W.heap.size->B.val (nb n)<B.val h.next/\B.val (nb n)<B.val h.floor/\∃ b,h.heap.get (nb n)=some b/\NJ W n b
theorem Start.cell {W:World} {h:H} (s:Start W h) {b off:Nat} {x:Value} (hx:W.cell? ⟨b,off,none⟩=some x):b<W.heap.size/\off<JX W b/\(∃ Ao,h.heap.get (nb b)=some Ao/\Ao.min<=0)/\Ev.cell h (nb b) 0 off=some (Cs W x):=by
 simp only[World.cell?]at hx
 split at hx
 ·rename_i c el fz hb
  have hlt:b<W.heap.size:=(Array.getElem?_eq_some_iff.1 hb).1
  obtain⟨_,_,Ao,b1,b2,b3,b4⟩:=s.Ao b hlt
  rw[hb]at b4
  obtain⟨c1,c2,c3,c4⟩:=b4
  have hcs:JX W b=c.size:=by unfold JX;rw[hb]
  refine⟨hlt,by rw[hcs];exact(Array.getElem?_eq_some_iff.1 hx).1,⟨Ao,b1,by omega⟩,?_⟩
  unfold Ev.cell GZ
  rw[b1]
  show(if Ao.min<=0 then Ao.cells.BN off else none)=_
  rw[if_pos (by omega)]
  exact c4 off x hx
 ·cases hx
/--a slice whose elements are one cell each -/
theorem Start.CT {W:World} {h:H} (s:Start W h) (h0:0<W.heap.size) {a:Addr} {len cap:Nat} (hs:len≠0->a.spot=none) (hl:len<=cap) (hM:cap<18446744073709551616) (xs:List Value) (hn:xs.length=len) (hx:∀ i x,xs[i]? =some x->W.cell? ⟨a.block,a.off+i,none⟩=some x):
 F5 h (Cs W (.slice (some a) len cap)) (xs.map (Cs W)):=by
 obtain⟨b,off,spot⟩:=a
 cases len with
 |zero=>
  have:xs=[]:=List.eq_nil_of_length_eq_zero hn
  subst this
  have e:Cs W (.slice (some ⟨b,off,spot⟩) 0 cap)=.l (nb 0) 0 0 0 0 none:=by unfold Cs;simp only[if_pos h0]
  rw[e]
  exact .inr ⟨nb 0,0,0,0,none,rfl,Nat.le_refl _,(s.Ao 0 h0).1,fun hne=>absurd rfl hne,fun i v hv=>by simp at hv⟩
 |succ n=>
  have hs':spot=none:=hs (by omega)
  subst hs'
  have hlast:∃ x,xs[n]? =some x:=⟨xs[n]'(by omega),by simp⟩
  obtain⟨x,hxl⟩:=hlast
  obtain⟨d1,d2,d3,d4⟩:=s.cell (hx n x hxl)
  have e:Cs W (.slice (some ⟨b,off,none⟩) (n+1) cap)=.l (nb b) 0 off (n+1) (JX W b) (some cap):=by unfold Cs;simp only[if_pos (⟨d1,hl,hM⟩:b<W.heap.size/\n+1<=cap/\cap<18446744073709551616)]
  rw[e]
  refine .inr ⟨nb b,0,off,JX W b,some cap,by rw[List.length_map,hn],by rw[List.length_map,hn];have:off+n<JX W b:=d2;omega,(s.Ao b d1).1,fun _=>d3,fun i v hv=>?_⟩
  rw[List.getElem?_map]at hv
  cases hxi:xs[i]? with
  |none=>rw[hxi]at hv;cases hv
  |some y=>
   rw[hxi]at hv
   cases hv
   exact(s.cell (hx i y hxi)).2.2.2
end Go.Ev
end
