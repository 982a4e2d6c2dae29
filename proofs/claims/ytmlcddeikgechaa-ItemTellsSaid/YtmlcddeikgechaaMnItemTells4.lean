/- The law ItemTells, part 4: what its proof uses, closely written. No condition. -/
import Derived.Test.YtmlcddeikgechaaMnItemTells3
import Derived.Test.YtmlcddeikgechaaChecked
import Derived.Test.YtmlcddeikgechaaRows
import Derived.ChangeMaps5
noncomputable section
set_option linter.all false
set_option maxRecDepth 100000
set_option maxHeartbeats 8000000
namespace Go.Proofs.Ytmlcddeikgechaa
open Go Go.Ev
theorem Mq {h:H} {l:List UInt8} (hl:l.length<=1000000) (hf:B.val h.floor<=B.val h.next):BZ Try.prog 55 [sv l] h fun y h'=>y=sv (Al l)/\AZ AM h h':=by
 refine BP xy (by intro hb;cases hb) (by simp) (by simp) fun Q hQ=>?_
 simp only[Ay,Nat.reduceAdd]
 have h9:=BO (n:=l.length) (by omega)
 repeat' (first
  |refine St.h ?_
  |simp(disch:=first|omega|(simp only[AJ];omega))only[AK,↓AB,↓reduceIte,seval]
  |(with_reducible (first|apply AD|apply AE))<;>(intro hc;(try simp only[AR]at hc);(try simp only[hc]);(try simp only[AQ]at hc);try omega))
 refine CL.stay (Ed (by omega) hf) fun h1 s1=>?_
 repeat' (first
  |refine St.h ?_
  |simp(disch:=first|omega|(simp only[AJ];omega))only[AK,↓AB,↓reduceIte,seval]
  |(with_reducible (first|apply AD|apply AE))<;>(intro hc;(try simp only[AR]at hc);(try simp only[hc]);(try simp only[AQ]at hc);try omega))
 subst hQ
 exact⟨rfl,s1⟩
theorem Oe {h:H} {l:List UInt8} (hl:l.length<=1000000) (hf:B.val h.floor<=B.val h.next):BZ Try.prog 40 [sv l] h fun y h'=>y=sv (Al l)/\AZ AM h h':=by
 refine BP yi (by intro hb;cases hb) (by simp) (by simp) fun Q hQ=>?_
 simp only[Ay,Nat.reduceAdd]
 have h9:=BO (n:=l.length) (by omega)
 repeat' (first
  |refine St.h ?_
  |simp(disch:=first|omega|(simp only[AJ];omega))only[AK,↓AB,↓reduceIte,seval]
  |(with_reducible (first|apply AD|apply AE))<;>(intro hc;(try simp only[AR]at hc);(try simp only[hc]);(try simp only[AQ]at hc);try omega))
 refine CL.stay (Et (by omega) hf) fun h1 s1=>?_
 repeat' (first
  |refine St.h ?_
  |simp(disch:=first|omega|(simp only[AJ];omega))only[AK,↓AB,↓reduceIte,seval]
  |(with_reducible (first|apply AD|apply AE))<;>(intro hc;(try simp only[AR]at hc);(try simp only[hc]);(try simp only[AQ]at hc);try omega))
 subst hQ
 exact⟨rfl,s1⟩
theorem Jk {h:H} {l:List UInt8} (hl:l.length<=1000000):BZ Try.prog 60 [sv l] h fun y h'=>y=GZ (A2 l)/\h'=h:=by
 refine BP yM (by intro hb;cases hb) (by simp) (by simp) fun Q hQ=>?_
 simp only[Ay,Nat.reduceAdd]
 repeat' (first
  |refine St.h ?_
  |simp(disch:=first|omega|(simp only[AJ];omega))only[AK,↓AB,↓reduceIte,seval]
  |(with_reducible (first|apply AD|apply AE))<;>(intro hc;(try simp only[AR]at hc);(try simp only[hc]);(try simp only[AQ]at hc);try omega))
 refine CL.pure (FT hl) ?_
 rcases Bi l with(hc|hc)|⟨n,k,hc,h1,h2,h3,h4⟩
 ·have e:A2 l=([],0,10):=by unfold A2;rw[hc];rfl
  rw[hc];unfold Hf
  repeat' (first
   |refine St.h ?_
   |simp(disch:=first|omega|(simp only[AJ];omega))only[AK,↓AB,↓reduceIte,seval]
   |(with_reducible (first|apply AD|apply AE))<;>(intro hc;(try simp only[AR]at hc);(try simp only[hc]);(try simp only[AQ]at hc);try omega))
  subst hQ
  exact⟨by rw[e];rfl,rfl⟩
 ·have e:A2 l=([],0,12):=by unfold A2;rw[hc];rfl
  rw[hc];unfold Hf
  repeat' (first
   |refine St.h ?_
   |simp(disch:=first|omega|(simp only[AJ];omega))only[AK,↓AB,↓reduceIte,seval]
   |(with_reducible (first|apply AD|apply AE))<;>(intro hc;(try simp only[AR]at hc);(try simp only[hc]);(try simp only[AQ]at hc);try omega))
  subst hQ
  exact⟨by rw[e];rfl,rfl⟩
 have e:A2 l=if ((l.drop k).length:Int)<(n:Int)then ([],0,12)else ((l.drop k).take n,(k:Int)+n,0):=by
  unfold A2;rw[hc];simp only[if_true,Int.toNat_natCast]
 rw[hc];unfold Hf
 have hd:(l.drop k).length=l.length-k:=List.length_drop
 repeat' (first
  |refine St.h ?_
  |simp(disch:=first|omega|(simp only[AJ];omega))only[AK,↓AB,↓reduceIte,seval,Int.toNat_natCast]
  |(with_reducible (first|apply AD|apply AE))<;>(intro hc;(try simp only[AR]at hc);(try simp only[hc]);(try simp only[AQ]at hc);try omega))
 ·rw[if_pos (by omega)]at e
  subst hQ
  exact⟨by rw[e];rfl,rfl⟩
 ·rw[if_neg (by omega)]at e
  subst hQ
  exact⟨by rw[e];rfl,rfl⟩
theorem Ip {h:H} {l:List UInt8} (hl:l.length<=1000000):BZ Try.prog 43 [sv l] h fun y h'=>y=GZ (A2 l)/\h'=h:=by
 refine BP xU (by intro hb;cases hb) (by simp) (by simp) fun Q hQ=>?_
 simp only[Ay,Nat.reduceAdd]
 repeat' (first
  |refine St.h ?_
  |simp(disch:=first|omega|(simp only[AJ];omega))only[AK,↓AB,↓reduceIte,seval]
  |(with_reducible (first|apply AD|apply AE))<;>(intro hc;(try simp only[AR]at hc);(try simp only[hc]);(try simp only[AQ]at hc);try omega))
 refine CL.pure (Fh hl) ?_
 rcases Bi l with(hc|hc)|⟨n,k,hc,h1,h2,h3,h4⟩
 ·have e:A2 l=([],0,10):=by unfold A2;rw[hc];rfl
  rw[hc];unfold Hf
  repeat' (first
   |refine St.h ?_
   |simp(disch:=first|omega|(simp only[AJ];omega))only[AK,↓AB,↓reduceIte,seval]
   |(with_reducible (first|apply AD|apply AE))<;>(intro hc;(try simp only[AR]at hc);(try simp only[hc]);(try simp only[AQ]at hc);try omega))
  subst hQ
  exact⟨by rw[e];rfl,rfl⟩
 ·have e:A2 l=([],0,12):=by unfold A2;rw[hc];rfl
  rw[hc];unfold Hf
  repeat' (first
   |refine St.h ?_
   |simp(disch:=first|omega|(simp only[AJ];omega))only[AK,↓AB,↓reduceIte,seval]
   |(with_reducible (first|apply AD|apply AE))<;>(intro hc;(try simp only[AR]at hc);(try simp only[hc]);(try simp only[AQ]at hc);try omega))
  subst hQ
  exact⟨by rw[e];rfl,rfl⟩
 have e:A2 l=if ((l.drop k).length:Int)<(n:Int)then ([],0,12)else ((l.drop k).take n,(k:Int)+n,0):=by
  unfold A2;rw[hc];simp only[if_true,Int.toNat_natCast]
 rw[hc];unfold Hf
 have hd:(l.drop k).length=l.length-k:=List.length_drop
 repeat' (first
  |refine St.h ?_
  |simp(disch:=first|omega|(simp only[AJ];omega))only[AK,↓AB,↓reduceIte,seval,Int.toNat_natCast]
  |(with_reducible (first|apply AD|apply AE))<;>(intro hc;(try simp only[AR]at hc);(try simp only[hc]);(try simp only[AQ]at hc);try omega))
 ·rw[if_pos (by omega)]at e
  subst hQ
  exact⟨by rw[e];rfl,rfl⟩
 ·rw[if_neg (by omega)]at e
  subst hQ
  refine⟨?_,rfl⟩
  rw[e]
  have:(l.take ((k:Int)+n).toNat).drop k=(l.drop k).take n:=by
   rw[show((k:Int)+n).toNat=k+n by omega,List.drop_take];congr 1;omega
  rw[this];rfl
theorem Fp (l:List UInt8):(A2 l=([],0,10)\/A2 l=([],0,12))\/∃ (v:List UInt8) (k:Nat),A2 l=(v,(k:Int),0)/\1<=k/\k<=l.length/\v.length<=k:=by
 rcases Bi l with(hc|hc)|⟨n,k,hc,h1,h2,h3,h4⟩
 ·exact .inl (.inl (by unfold A2;rw[hc];rfl))
 ·exact .inl (.inr (by unfold A2;rw[hc];rfl))
 have e:A2 l=if ((l.drop k).length:Int)<(n:Int)then ([],0,12)else ((l.drop k).take n,(k:Int)+n,0):=by
  unfold A2;rw[hc];simp only[if_true,Int.toNat_natCast]
 have hd:(l.drop k).length=l.length-k:=List.length_drop
 by_cases hn:((l.drop k).length:Int)<(n:Int)
 ·rw[if_pos hn]at e;exact .inl (.inr e)
 ·rw[if_neg hn]at e
  exact .inr ⟨_,k+n,by rw[e];rfl,by omega,by omega,by rw[List.length_take];omega⟩
end Go.Proofs.Ytmlcddeikgechaa
set_option maxRecDepth 100000
set_option maxHeartbeats 8000000
namespace Go.Proofs.Ytmlcddeikgechaa
open Go Go.Ev
theorem PN {h:H} {k v:List UInt8} {d:Bool} (hf:B.val h.floor<=B.val h.next):BZ Try.prog 44 [.a [sv k,.b d,sv v]] h fun y h'=>y=.b (Oh k d v)/\AZ AM h h':=by
 refine BP xx (by intro hb;cases hb) (by simp) (by simp) fun Q hQ=>?_
 simp only[Ay,Nat.reduceAdd]
 repeat' (first
  |refine St.h ?_
  |simp(disch:=first|omega|(simp only[AJ];omega))only[AK,↓AB,↓reduceIte,seval]
  |(with_reducible (first|apply AD|apply AE))<;>(intro hc;(try simp only[AR]at hc);(try simp only[hc]);(try simp only[AQ]at hc);try omega))
 refine AL.own (by simp) hf fun h1 s1 n1 o1=>?_
 repeat' (first
  |refine St.h ?_
  |simp(disch:=first|omega|(simp only[AJ];omega))only[AK,↓AB,↓reduceIte,seval,o1.row.l1]
  |(with_reducible (first|apply AD|apply AE))<;>(intro hc;(try simp only[AR]at hc);(try simp only[hc]);(try simp only[AQ]at hc);try omega))
 all_goals (subst hQ;refine⟨?_,s1⟩;congr 1;symm;first|exact Ta (by assumption)|exact Ui (by assumption)|exact Xy (by assumption) (by assumption) (by assumption)|exact X3 (by assumption) (by assumption) (by assumption))
theorem NT {h:H} {k v:List UInt8} {d:Bool} (hf:B.val h.floor<=B.val h.next):BZ Try.prog 46 [.a [sv k,.b d,sv v]] h fun y h'=>y=.b (Oh k d v)/\AZ AM h h':=by
 refine BP wm (by intro hb;cases hb) (by simp) (by simp) fun Q hQ=>?_
 simp only[Ay,Nat.reduceAdd]
 repeat' (first
  |refine St.h ?_
  |simp(disch:=first|omega|(simp only[AJ];omega))only[AK,↓AB,↓reduceIte,seval]
  |(with_reducible (first|apply AD|apply AE))<;>(intro hc;(try simp only[AR]at hc);(try simp only[hc]);(try simp only[AQ]at hc);try omega))
 refine AL.own (by simp) hf fun h1 s1 n1 o1=>?_
 repeat' (first
  |refine St.h ?_
  |simp(disch:=first|omega|(simp only[AJ];omega))only[AK,↓AB,↓reduceIte,seval,o1.row.l1]
  |(with_reducible (first|apply AD|apply AE))<;>(intro hc;(try simp only[AR]at hc);(try simp only[hc]);(try simp only[AQ]at hc);try omega))
 all_goals (subst hQ;refine⟨?_,s1⟩;congr 1;symm;first|exact Ta (by assumption)|exact Ui (by assumption)|exact Vg (by assumption)|exact Xy (by assumption) (by assumption) (by assumption)|(rw[X3 (by assumption) (by assumption) (by assumption)];exact decide_eq_true (by assumption)))
end Go.Proofs.Ytmlcddeikgechaa
set_option maxRecDepth 100000
set_option maxHeartbeats 8000000
namespace Go.Proofs.Ytmlcddeikgechaa
open Go Go.Ev
theorem C4 {h:H} {id:B} {xs:List V} (o:Ev.Own h id xs):B.val id<B.val h.next:=by obtain⟨_,_,_,_,_,_,h6,_⟩:=o;exact h6
/--a block,as it lies -/
structure Bk where
 v:V
 l:List XM
instance:Inhabited Bk:=⟨⟨.l0,[]⟩⟩
def wO (b:Bk):List V:=[b.v]
theorem XC (b:Bk):(wO b).length=1:=rfl
/--blocks,as they lie -/
structure Wh (h:H) (v:V) (bs:List (List XM)) (ks:List Bk):Prop where
 ss:Ss 1 wO h v ks
 eq:ks.map (·.l)=bs
 es:∀ k∈ks,Es h k.v k.l
section
variable {P:Program} {h h' g':H} {N:Nx} {v:V} {bs:List (List XM)} {ks:List Bk} {i:Nat}
theorem Wh.len (a:Wh h v bs ks):ks.length=bs.length:=by rw[<-a.eq,List.length_map]
theorem Wh.ld (a:Wh h v bs ks) (hi:i<bs.length):L1 P (I4 v) (lg v) (EH v+i) (EW v) h N=N.go P (ks.getD i default).v h:=by
 have:=a.ss.ld (P:=P) (N:=N) (i:=i) (d:=0) XC (by rw[a.len];exact hi) (by omega)
 rwa [Nat.mul_one]at this
theorem Wh.grow (a:Wh h v bs ks) (s:AZ AM h h'):Wh h' v bs ks:=⟨a.ss.grow s,a.eq,fun k hk=>(a.es k hk).grow s⟩
theorem Wh.at (a:Wh h v bs ks) (hi:i<bs.length):Es h (ks.getD i default).v (bs.getD i []):=by
 have hk:i<ks.length:=by rw[a.len];exact hi
 have h1:=a.es (ks.getD i default) (by rw[List.getD_eq_getElem?_getD,List.getElem?_eq_getElem hk];simp)
 have h2:bs.getD i []=(ks.getD i default).l:=by rw[<-a.eq];simp[List.getD,List.getElem?_eq_getElem hk]
 rw[h2];exact h1
end
end Go.Proofs.Ytmlcddeikgechaa
namespace Go.Proofs.Ytmlcddeikgechaa
open Go Go.Ev
structure Wk where
 v:V
 l:List Bs
instance:Inhabited Wk:=⟨⟨.l0,[]⟩⟩
def wN (b:Wk):List V:=[b.v]
theorem Xo (b:Wk):(wN b).length=1:=rfl
structure WR (h:H) (v:V) (bs:List (List Bs)) (ks:List Wk):Prop where
 ss:Ss 1 wN h v ks
 eq:ks.map (·.l)=bs
 es:∀ k∈ks,Ws h k.v k.l/\LS 3 k.v
section
variable {P:Program} {h h' g':H} {N:Nx} {v:V} {bs:List (List Bs)} {ks:List Wk} {i:Nat}
theorem WR.len (a:WR h v bs ks):ks.length=bs.length:=by rw[<-a.eq,List.length_map]
theorem WR.ld (a:WR h v bs ks) (hi:i<bs.length):L1 P (I4 v) (lg v) (EH v+i) (EW v) h N=N.go P (ks.getD i default).v h:=by
 have:=a.ss.ld (P:=P) (N:=N) (i:=i) (d:=0) Xo (by rw[a.len];exact hi) (by omega)
 rwa [Nat.mul_one]at this
theorem WR.grow (a:WR h v bs ks) (s:AZ AM h h'):WR h' v bs ks:=⟨a.ss.grow s,a.eq,fun k hk=>⟨(a.es k hk).1.grow s,(a.es k hk).2⟩⟩
theorem WR.at (a:WR h v bs ks) (hi:i<bs.length):Ws h (ks.getD i default).v (bs.getD i [])/\LS 3 (ks.getD i default).v:=by
 have hk:i<ks.length:=by rw[a.len];exact hi
 have h1:=a.es (ks.getD i default) (by rw[List.getD_eq_getElem?_getD,List.getElem?_eq_getElem hk];simp)
 have h2:bs.getD i []=(ks.getD i default).l:=by rw[<-a.eq];simp[List.getD,List.getElem?_eq_getElem hk]
 rw[h2];exact h1
end
end Go.Proofs.Ytmlcddeikgechaa
namespace Go.Proofs.Ytmlcddeikgechaa
open Go Go.Ev Go.RowKit Go.WideShapes Go.ChangeShapes Go.ChangeAt Go.Deep
theorem T6 {W:World} {h:H} {x:Value} {L:List Bs} (a:Ws h (Db W x) L):LS 3 (Db W x):=by
 have nol:∀ v:V,Ws h v L->v≠.u:=by
  rintro _ (⟨rfl,_⟩|⟨id,g,off,fin,cap,rfl,_⟩)<;>intro e<;>cases e
 have np:∀ id g off fin,¬Ws h (.p id g off fin) L:=by
  rintro id g off fin (⟨e,_⟩|⟨_,_,_,_,_,e,_⟩)<;>cases e
 revert a
 unfold Db
 split
 all_goals intro a
 all_goals first
  |exact .inl rfl
  |(exfalso;rcases a with⟨e,_⟩|⟨_,_,_,_,_,e,_⟩<;>cases e;done)
  |skip
 ·split at a
  ·exact absurd a (np _ _ _ _)
  ·exact absurd rfl (nol _ a)
 ·rename_i hh
  split at a
  ·rename_i hb
   rw[if_pos hb]
   exact .inr ⟨_,_,_,_,_,_,rfl,hb.2.1,fun h=>absurd hb.2.2 (Nat.not_lt.2 h)⟩
  ·exact absurd rfl (nol _ a)
 ·split at a
  ·rename_i hb
   rw[if_pos hb]
   exact .inr ⟨_,_,_,_,_,_,rfl,rfl⟩
  ·exact absurd rfl (nol _ a)
/--a row of writes -/
theorem kN {H':Type} {enc:TypeId×Value->H'} {P:Program} {W:World} {h:H} (s:Go.Ev.Start W h) (h0:0<W.heap.size) {t e:TypeId} {fs:Array Field} {fuel:Nat} {cs:List Value} {x:DataW H'×List MemPlace} (ht:P.underlying t=some (.slice e)) (F:U7 P e fs [.s,.b,.s])
 (hd:DataW.trod enc P W 0 (fun _=>true) true fuel t cs=some x):∃ sv L,cs=[sv]/\Ws h (Db W sv) L/\L.length<=9223372036854775807/\∀ a∈L,True:=
 WY (c:=Fu) (Pr:=fun _=>True) Cs (by omega) s h0 ht F.sz (fun fuel cs x h=>by
  obtain⟨_,_,rfl,⟨a,rfl,_⟩,_,_,rfl,⟨b,rfl⟩,_,_,rfl,⟨c,rfl,_⟩,rfl⟩:=RQ F h
  refine⟨⟨a.data.toList,b,c.data.toList⟩,?_,trivial⟩
  simp only[List.map_cons,List.map_nil,Qt,Nr]
  rfl) hd
end Go.Proofs.Ytmlcddeikgechaa
namespace Go.Ev
open Go Go.RowKit Go.WideShapes Go.ChangeShapes Go.ChangeAt Go.Deep
section
variable {H':Type} {enc:TypeId×Value->H'} {P:Program}
theorem WL {W:World} {t:TypeId} {fs:Array Field} {fuel:Nat} {cs:List Value} {x:DataW H'×List MemPlace} (ut:P.underlying t=some (.struct fs)) (hd:DataW.trod enc P W 0 (fun _=>true) true fuel t cs=some x):
 cs.length=P.cellsOf t/\∀ (i:Nat) f,fs.toList[i]? =some f->∃ n y,DataW.trod enc P W 0 (fun _=>true) true n f.type ((cs.drop f.offset).take (P.cellsOf f.type))=some y:=by
 cases fuel with
 |zero=>simp[DataW.trod]at hd
 |succ n=>
  unfold DataW.trod at hd
  rw[ut]at hd
  simp only at hd
  split at hd
  ·rename_i hl
   refine⟨hl,fun i f hf=>?_⟩
   rw[Option.map_eq_some_iff]at hd
   obtain⟨xs,hx,_⟩:=hd
   have:=mapM_some_get hx i f hf
   have hlen:=mapM_some_length hx
   have hi:i<xs.length:=by rw[hlen];exact(List.getElem?_eq_some_iff.1 hf).1
   exact⟨n,xs[i],by rw[this];simp⟩
  ·cases hd
structure xa (P:Program) (t:TypeId) (fs:Array Field):Prop where
 ut:P.underlying t=some (.struct fs)
 sz:P.cellsOf t=4
 f0:∃ f,fs.toList[0]? =some f/\f.offset=0/\P.cellsOf f.type=1/\P.underlying f.type=some .string
 f1:∃ f,fs.toList[1]? =some f/\f.offset=1/\P.cellsOf f.type=1/\P.underlying f.type=some (.int .i64)
 f2:∃ f,fs.toList[2]? =some f/\f.offset=2/\P.cellsOf f.type=1/\P.underlying f.type=some .bool
 f3:∃ f,fs.toList[3]? =some f/\f.offset=3/\P.cellsOf f.type=1/\P.underlying f.type=some .string
structure xM (P:Program) (t:TypeId) (fs:Array Field):Prop where
 ut:P.underlying t=some (.struct fs)
 sz:P.cellsOf t=3
 f0:∃ f,fs.toList[0]? =some f/\f.offset=0/\P.cellsOf f.type=1/\P.underlying f.type=some .string
 f1:∃ f,fs.toList[1]? =some f/\f.offset=1/\P.cellsOf f.type=1/\P.underlying f.type=some .bool
 f2:∃ f,fs.toList[2]? =some f/\f.offset=2/\P.cellsOf f.type=1/\P.underlying f.type=some .string
end
end Go.Ev
namespace Go.Ev
open Go
structure Em where
 lv:Int
 n:Int
 tn:Int
 sh:Bool
 ws:List Bs
deriving DecidableEq
def C7:Em:=⟨0,0,0,false,[]⟩
instance:Inhabited Em:=⟨C7⟩
theorem Qh {a b:Em} (h:a.lv=b.lv/\a.n=b.n/\a.tn=b.tn/\a.sh=b.sh/\a.ws=b.ws):a=b:=by cases a;cases b;simp at h;simp[h]
def TP (x:Em):Bool:=decide (0<=x.lv/\x.lv<6/\1<=x.n/\x.n<=1000000/\0<=x.tn/\x.tn<=1000000)
def EC (L:List Bs):Bool:=L.all fun w=>decide (w.key.length<=12)
def LJ (x:Em):Bool:=(x.sh&&decide (x.ws=[]))||(!x.sh&&decide (x.ws≠[])&&Ho x.ws)
def F7 (x:Em):Bool:=TP x&&(EC x.ws&&LJ x)
theorem Ow {L:List Bs}:EC L=true↔∀ w∈L,w.key.length<=12:=by unfold EC;rw[List.all_eq_true];simp
theorem HD {x:Em} (h:F7 x=true):0<=x.lv/\x.lv<6/\1<=x.n/\x.n<=1000000/\0<=x.tn/\x.tn<=1000000:=by
 unfold F7 at h;rw[Bool.and_eq_true]at h;exact of_decide_eq_true h.1
theorem Hh {x:Em} (h:F7 x=true):Ho x.ws=true:=by
 unfold F7 LJ at h
 rw[Bool.and_eq_true,Bool.and_eq_true,Bool.or_eq_true,Bool.and_eq_true,Bool.and_eq_true,Bool.and_eq_true]at h
 rcases h.2.2 with h|h
 ·rw[of_decide_eq_true h.2];rfl
 ·exact h.2
def EV (x:Em):UInt8:=if x.sh then 1 else 0
def DG (x:Em):List UInt8:=A7 x.lv.toNat++(A7 x.n.toNat++(A7 x.tn.toNat++(EV x::Bf x.ws)))
def FY (x:Em):List UInt8:=B7 (DG x)
def Ec (x:Em):List UInt8×Bool:=if F7 x then (FY x,true)else ([],false)
/--what was sealed,taken -/
def Ek (b:List UInt8):Option Em:=
 let p:=takeN b
 if p.2.2≠0 then none else
 let b1:=b.drop p.2.1.toNat
 let q:=takeN b1
 if q.2.2≠0 then none else
 let b2:=b1.drop q.2.1.toNat
 let r:=takeN b2
 if r.2.2≠0 then none else
 match b2.drop r.2.1.toNat with
 |[]=>none
 |c::b3=>(Br b3).map fun w=>⟨p.1,q.1,r.1,decide (c=1),w⟩
def An (s:List UInt8):Em×Int×Int:=
 let o:=CV s
 if o.2.2≠0 then (C7,0,o.2.2)else
 match Ek o.1 with
 |none=>(C7,0,10)
 |some x=>if F7 x=true/\FY x=s.take o.2.1.toNat then (x,o.2.1,0)else (C7,0,10)
def OI (x:Em):Bool:=x.ws.all okW&&decide (x.ws.length<=12)
end Go.Ev
namespace Go.Ev
open Go
/--an item,with where its writes lie -/
structure Ik where
 v:V
 x:Em
instance:Inhabited Ik:=⟨⟨.l0,C7⟩⟩
def ya (k:Ik):List V:=[.i .i64 k.x.lv,.i .i64 k.x.n,.i .i64 k.x.tn,.b k.x.sh,k.v]
/--numbers that are ints -/
def RZ (x:Em):Prop:=(-9223372036854775808<=x.lv/\x.lv<=9223372036854775807)/\(-9223372036854775808<=x.n/\x.n<=9223372036854775807)/\(-9223372036854775808<=x.tn/\x.tn<=9223372036854775807)/\x.ws.length<=9223372036854775807
structure se (h:H) (v:V) (K:List Ik):Prop where
 ss:Ss 5 ya h v K
 es:∀ k∈K,Ws h k.v k.x.ws/\LS 3 k.v/\RZ k.x
section
variable {P:Program} {h h' g':H} {N:Nx} {v:V} {K:List Ik} {i:Nat}
theorem XY {K:List Ik} (hi:i<K.length):K.getD i default∈K:=by
 rw[show K.getD i default=K[i]by simp[List.getD,hi]];exact List.getElem_mem hi
theorem se.grow (a:se h v K) (s:AZ AM h h'):se h' v K:=⟨Ss.grow a.ss s,fun k hk=>⟨(a.es k hk).1.grow s,(a.es k hk).2⟩⟩
theorem se.at (a:se h v K) (hi:i<K.length):Ws h (K.getD i default).v (K.getD i default).x.ws/\LS 3 (K.getD i default).v/\RZ (K.getD i default).x:=a.es _ (XY hi)
end
end Go.Ev
namespace Go.Proofs.Ytmlcddeikgechaa
open Go Go.Ev Go.RowKit Go.WideShapes Go.ChangeShapes Go.ChangeAt Go.Deep
structure Xk (P:Program) (t:TypeId) (fs:Array Field):Prop where
 ut:P.underlying t=some (.struct fs)
 sz:P.cellsOf t=5
 f0:∃ f,fs.toList[0]? =some f/\f.offset=0/\P.cellsOf f.type=1/\P.underlying f.type=some (.int .i64)
 f1:∃ f,fs.toList[1]? =some f/\f.offset=1/\P.cellsOf f.type=1/\P.underlying f.type=some (.int .i64)
 f2:∃ f,fs.toList[2]? =some f/\f.offset=2/\P.cellsOf f.type=1/\P.underlying f.type=some (.int .i64)
 f3:∃ f,fs.toList[3]? =some f/\f.offset=3/\P.cellsOf f.type=1/\P.underlying f.type=some .bool
 f4:∃ f,fs.toList[4]? =some f/\f.offset=4/\P.cellsOf f.type=1/\∃ e gs,P.underlying f.type=some (.slice e)/\U7 P e gs [.s,.b,.s]
section
variable {H':Type} {enc:TypeId×Value->H'} {P:Program} {W:World}
def tw (a b c:Int) (q:Bool) (w:Value):List Value:=[.int .i64 a,.int .i64 b,.int .i64 c,.bool q,w]
theorem UD {h:H} (s:Go.Ev.Start W h) (h0:0<W.heap.size) {t:TypeId} {fs:Array Field} {fuel:Nat} {cs:List Value} {x:DataW H'×List MemPlace} (F:Xk P t fs)
 (hd:DataW.trod enc P W 0 (fun _=>true) true fuel t cs=some x):∃ a b c q w L,cs=tw a b c q w/\Ws h (Db W w) L/\LS 3 (Db W w)/\RZ ⟨a,b,c,q,L⟩:=by
 obtain⟨hl,hf⟩:=WL F.ut hd
 rw[F.sz]at hl
 obtain⟨f0,g0,o0,z0,u0⟩:=F.f0
 obtain⟨f1,g1,o1,z1,u1⟩:=F.f1
 obtain⟨f2,g2,o2,z2,u2⟩:=F.f2
 obtain⟨f3,g3,o3,z3,u3⟩:=F.f3
 obtain⟨f4,g4,o4,z4,t4,gs,u4,F4⟩:=F.f4
 match cs,hl with
 |[c0,c1,c2,c3,c4],_=>
  obtain⟨_,_,k0⟩:=hf 0 f0 g0
  obtain⟨_,_,k1⟩:=hf 1 f1 g1
  obtain⟨_,_,k2⟩:=hf 2 f2 g2
  obtain⟨_,_,k3⟩:=hf 3 f3 g3
  obtain⟨_,_,k4⟩:=hf 4 f4 g4
  rw[o0,z0]at k0
  rw[o1,z1]at k1
  rw[o2,z2]at k2
  rw[o3,z3]at k3
  rw[o4,z4]at k4
  obtain⟨a,e0,_,w0⟩:=DataW.trod_int u0 k0
  obtain⟨b,e1,_,w1⟩:=DataW.trod_int u1 k1
  obtain⟨c,e2,_,w2⟩:=DataW.trod_int u2 k2
  obtain⟨q,e3,_⟩:=DataW.trod_bool u3 k3
  obtain⟨w,L,e4,m4,l4,_⟩:=kN s h0 u4 F4 k4
  simp at e0 e1 e2 e3 e4
  subst e0 e1 e2 e3 e4
  exact⟨a,b,c,q,_,L,rfl,m4,T6 m4,wf_i64 w0,wf_i64 w1,wf_i64 w2,l4⟩
/--an argument that is an item -/
theorem YI {h:H} (s:Go.Ev.Start W h) (h0:0<W.heap.size) {t:TypeId} {fs:Array Field} {v:Value} {d:DataW H'} {ps:List MemPlace} {base:Nat} (F:Xk P t fs) (hval:Value.okWide P W .any base t v) (hd:DataW.Trod enc P W 0 (fun _=>true) true t v d ps):
 ∃ a b c q w L,v=.agg (tw a b c q w).toArray/\Ws h (Db W w) L/\LS 3 (Db W w)/\RZ ⟨a,b,c,q,L⟩:=by
 unfold Value.okWide at hval
 rw[F.ut]at hval
 obtain⟨cs,rfl,hsz,_⟩:=hval
 obtain⟨fuel,hfu⟩:=hd
 have e:(Value.agg cs).cells.toList=cs.toList:=rfl
 rw[e]at hfu
 obtain⟨a,b,c,q,w,L,h1,h2⟩:=UD s h0 F hfu
 exact⟨a,b,c,q,w,L,by rw[<-h1],h2⟩
theorem VQ (a b c:Int) (q:Bool) (w:Value):At (LV W) (.a [.i .i64 a,.i .i64 b,.i .i64 c,.b q,Db W w]) (.agg (tw a b c q w).toArray):=
 ⟨_,rfl,rfl,rfl,rfl,rfl,Kf W w,trivial⟩
end
end Go.Proofs.Ytmlcddeikgechaa
set_option maxRecDepth 1000000
namespace Go.Proofs.Ytmlcddeikgechaa
open Go Go.Ev
abbrev mw:CC:=(CC.seq (CC.region [(wB 2 (AA (O.c (V.b Bool.false))))]) CC.ret)
abbrev pn:CC:=(CC.seq (CC.region [(wB 2 (AA (O.c (V.b Bool.false))))]) CC.ret)
abbrev qP:CC:=(CC.seq (CC.region [(wB 2 (AA (O.c (V.b Bool.false))))]) CC.ret)
abbrev qw:CC:=(CC.seq (CC.region [(wB 33 (AG 4 (tm 1))),(wB 34 (Aa (tm 33))),(wB 35 (CG (tm 34))),(wB 36 (AX CY (tm 35) (oN 0))),(wB 2 (AA (tm 36)))]) CC.ret)
abbrev pc:CC:=(CC.cond (tm 30) qw CC.skip)
abbrev nX:CC:=(CC.seq (CC.region [(wB 31 (AG 3 (tm 1))),(wB 32 (Aa (tm 31))),(wB 30 (AA (tm 32)))]) pc)
abbrev mR:CC:=(CC.cond (tm 21) qP nX)
abbrev pI:CC:=(CC.seq (CC.region [(wB 22 (AG 2 (tm 1))),(wB 23 (Aa (tm 22))),(wB 24 (AX Cr (tm 23) (oN 0))),(wB 25 (AA (tm 24))),(wG 25 false 26 (AG 2 (tm 1))),(wG 25 false 27 (Aa (tm 26))),(wG 25 false 28 (AX C6 (tm 27) (oN 1000000))),(wB 29 (Ac (tm 25) (O.c (V.b Bool.true)) (tm 28))),(wB 21 (AA (tm 29)))]) mR)
abbrev kI:CC:=(CC.cond (tm 12) pn pI)
abbrev mW:CC:=(CC.seq (CC.region [(wB 13 (AG 1 (tm 1))),(wB 14 (Aa (tm 13))),(wB 15 (AX Cr (tm 14) (oN 1))),(wB 16 (AA (tm 15))),(wG 16 false 17 (AG 1 (tm 1))),(wG 16 false 18 (Aa (tm 17))),(wG 16 false 19 (AX C6 (tm 18) (oN 1000000))),(wB 20 (Ac (tm 16) (O.c (V.b Bool.true)) (tm 19))),(wB 12 (AA (tm 20)))]) kI)
abbrev Ze:CC:=(CC.cond (tm 3) mw mW)
abbrev cL:CC:=(CC.seq (CC.region [(wB 4 (AG 0 (tm 1))),(wB 5 (Aa (tm 4))),(wB 6 (AX Cr (tm 5) (oN 0))),(wB 7 (AA (tm 6))),(wG 7 false 8 (AG 0 (tm 1))),(wG 7 false 9 (Aa (tm 8))),(wG 7 false 10 (AX Gt (tm 9) (oN 6))),(wB 11 (Ac (tm 7) (O.c (V.b Bool.true)) (tm 10))),(wB 3 (AA (tm 11)))]) Ze)
abbrev bT:CC:=(CC.block 0 cL)
abbrev dm:CC:=(CC.seq (CC.region [(wB 37 (AG 4 (tm 1))),(wB 38 (Aa (tm 37))),(wB 39 (CG (tm 38))),(wB 40 (AX C6 (tm 39) (oN 0))),(wB 41 (AA (tm 40))),(wG 41 true 42 (AG 4 (tm 1))),(wG 41 true 43 (Aa (tm 42))),(wG 41 true 44 (AW 30 [(tm 43)])),(wB 45 (Ac (tm 41) (tm 44) (O.c (V.b Bool.false)))),(wB 46 (AA (tm 45))),(wG 46 true 47 (AG 4 (tm 1))),(wG 46 true 48 (Aa (tm 47))),(wG 46 true 49 (AW 31 [(tm 48),(O.c (V.f 32 []))])),(wG 46 true 50 (CN (tm 49))),(wB 51 (Ac (tm 46) (tm 50) (O.c (V.b Bool.false)))),(wB 2 (AA (tm 51)))]) CC.ret)
abbrev cN:CC:=(CC.seq bT dm)
abbrev x7:CC:=(CC.seq (CC.region [(wB 1 (Cn 24 (tm 0))),(wB 2 (AA (O.c (V.b Bool.false))))]) cN)
theorem xN:AY Try.prog 15=⟨52,x7,[(Rs.tmp (AV 2))]⟩:=by kernel_rfl
abbrev nh:CC:=(CC.seq (CC.region [(wB 5 (AG 0 (tm 2))),(wB 6 (Aa (tm 5))),(wB 7 (AG 0 (tm 3))),(wB 8 (Aa (tm 7))),(wB 9 (AX CY (tm 6) (tm 8))),(wB 10 (AA (tm 9))),(wG 10 true 11 (AG 1 (tm 2))),(wG 10 true 12 (Aa (tm 11))),(wG 10 true 13 (AG 1 (tm 3))),(wG 10 true 14 (Aa (tm 13))),(wG 10 true 15 (AX CY (tm 12) (tm 14))),(wB 16 (Ac (tm 10) (tm 15) (O.c (V.b Bool.false)))),(wB 17 (AA (tm 16))),(wG 17 true 18 (AG 2 (tm 2))),(wG 17 true 19 (Aa (tm 18))),(wG 17 true 20 (AG 2 (tm 3))),(wG 17 true 21 (Aa (tm 20))),(wG 17 true 22 (AX CY (tm 19) (tm 21))),(wB 23 (Ac (tm 17) (tm 22) (O.c (V.b Bool.false)))),(wB 24 (AA (tm 23))),(wG 24 true 25 (AG 3 (tm 2))),(wG 24 true 26 (Aa (tm 25))),(wG 24 true 27 (AG 3 (tm 3))),(wG 24 true 28 (Aa (tm 27))),(wG 24 true 29 (DF Bool.false (tm 26) (tm 28))),(wB 30 (Ac (tm 24) (tm 29) (O.c (V.b Bool.false)))),(wB 31 (AA (tm 30))),(wG 31 true 32 (AG 4 (tm 2))),(wG 31 true 33 (Aa (tm 32))),(wG 31 true 34 (AG 4 (tm 3))),(wG 31 true 35 (Aa (tm 34))),(wG 31 true 36 (AW 34 [(tm 33),(tm 35)])),(wB 37 (Ac (tm 31) (tm 36) (O.c (V.b Bool.false)))),(wB 4 (AA (tm 37)))]) CC.ret)
abbrev PC:CC:=(CC.seq (CC.region [(wB 2 (Cn 24 (tm 0))),(wB 3 (Cn 24 (tm 1))),(wB 4 (AA (O.c (V.b Bool.false))))]) nh)
theorem xq:AY Try.prog 17=⟨38,PC,[(Rs.tmp (AV 4))]⟩:=by kernel_rfl
abbrev qC:CC:=(CC.seq (CC.region [(wB 7 (Ah 5 (tm 1))),(CO.mk G.none D.none Bool.true (CR.mk (Aq 5 (tm 2) (tm 7))))]) CC.ret)
abbrev oC:CC:=(CC.seq (CC.region [(wB 3 (AG 4 (tm 1))),(wB 4 (Aa (tm 3))),(wB 5 (CE 39 3 (O.c V.l0) (tm 4))),(wB 6 (AG 4 (tm 1))),(CO.mk G.none D.none Bool.true (CR.mk (Aq 1 (tm 6) (tm 5))))]) qC)
abbrev xG:CC:=(CC.seq (CC.region [(wB 1 (Cn 24 (tm 0))),(wB 2 (BN 24 [(V.i IntKind.i64 (Int.ofNat 0)),(V.i IntKind.i64 (Int.ofNat 0)),(V.i IntKind.i64 (Int.ofNat 0)),(V.b Bool.false),V.l0]))]) oC)
theorem xu:AY Try.prog 13=⟨8,xG,[(Rs.HI (AV 2) 5)]⟩:=by kernel_rfl
abbrev vO:CC:=(CC.seq (CC.region [(wB 2 (AA (O.c (V.s 0 0)))),(wB 3 (AA (oN 10)))]) CC.ret)
abbrev ux:CC:=(CC.cond (tm 8) vO CC.skip)
abbrev ur:CC:=(CC.seq (CC.region [(wB 6 (Ah 5 (tm 1))),(wB 7 (AW 15 [(tm 6)])),(wB 8 (CN (tm 7)))]) ux)
abbrev tl:CC:=(CC.region [(wB 4 (AA (O.c (V.i IntKind.u8 (Int.ofNat 1)))))])
abbrev uh:CC:=(CC.cond (tm 10) tl CC.skip)
abbrev uq:CC:=(CC.seq (CC.region [(wB 9 (AG 3 (tm 1))),(wB 10 (Aa (tm 9)))]) uh)
abbrev vQ:CC:=(CC.seq (CC.region [(wB 26 (AA (tm 5))),(wB 27 (AG 4 (tm 1))),(wB 28 (Aa (tm 27))),(wB 29 (AW 20 [(tm 28)])),(wB 30 (BE (tm 26) (tm 29))),(wB 31 (AW 19 [(tm 30)])),(wB 2 (AA (tm 31))),(wB 3 (AA (oN 0)))]) CC.ret)
abbrev vw:CC:=(CC.seq (CC.Bg [(uB 11 (AG 0 (tm 1))),(uB 12 (Aa (tm 11))),(uB 13 (AW 18 [(tm 12)])),(uB 14 (AG 1 (tm 1))),(uB 15 (Aa (tm 14))),(uB 16 (AW 18 [(tm 15)])),(uB 17 (BE (tm 13) (tm 16))),(uB 18 (AG 2 (tm 1))),(uB 19 (Aa (tm 18))),(uB 20 (AW 18 [(tm 19)])),(uB 21 (BE (tm 17) (tm 20))),(uB 22 (AA (tm 4))),(uB 23 (A9 5 1 [(V.i IntKind.u8 (Int.ofNat 0))] [(Pt.mk 0 1 (tm 22))])),(uB 24 (Dl (tm 23))),(uB 25 (BE (tm 21) (tm 24))),(uB 5 (AA (tm 25)))] none) vQ)
abbrev vW:CC:=(CC.seq uq vw)
abbrev vU:CC:=(CC.seq (CC.region [(wB 4 (AA (O.c (V.i IntKind.u8 (Int.ofNat 0)))))]) vW)
abbrev lZ:CC:=(CC.seq ur vU)
abbrev b9:CC:=(CC.seq (CC.region [(wB 1 (Cn 24 (tm 0))),(wB 2 (AA (O.c (V.s 0 0)))),(wB 3 (AA (oN 0)))]) lZ)
theorem c9:AY Try.prog 9=⟨32,b9,[(Rs.tmp (AV 2)),(Rs.tmp (AV 3))]⟩:=by kernel_rfl
abbrev sr:CC:=(CC.seq (CC.region [(wB 19 (B1 [(V.i IntKind.i64 (Int.ofNat 0)),(V.i IntKind.i64 (Int.ofNat 0)),(V.i IntKind.i64 (Int.ofNat 0)),(V.b Bool.false),V.l0] [])),(wB 20 (AA (tm 7))),(CO.mk G.none D.none Bool.true (CR.mk (Aq 5 (tm 2) (tm 19)))),(wB 3 (AA (oN 0))),(wB 4 (AA (tm 20)))]) CC.ret)
abbrev tN:CC:=(CC.cond (tm 18) sr CC.skip)
abbrev mm:CC:=(CC.seq (CC.region [(wB 17 (AA (tm 7))),(wB 18 (AX FI (tm 17) (oN 0)))]) tN)
abbrev sn:CC:=(CC.seq (CC.region [(wB 33 (B1 [(V.i IntKind.i64 (Int.ofNat 0)),(V.i IntKind.i64 (Int.ofNat 0)),(V.i IntKind.i64 (Int.ofNat 0)),(V.b Bool.false),V.l0] [])),(CO.mk G.none D.none Bool.true (CR.mk (Aq 5 (tm 2) (tm 33)))),(wB 3 (AA (oN 0))),(wB 4 (AA (oN 10)))]) CC.ret)
abbrev iL:CC:=(CC.cond (tm 32) sn CC.skip)
abbrev oe:CC:=(CC.seq (CC.region [(wB 28 (AA (tm 9))),(wB 29 (AA (tm 0))),(wB 30 (AA (tm 6))),(wB 31 (Az (tm 29) none (some (tm 30)))),(wB 32 (CM (fun a b c d=>!Fw a b c d) (tm 28) (tm 31)))]) iL)
abbrev rQ:CC:=(CC.seq (CC.region [(wB 24 (Ah 5 (tm 8))),(wB 25 (AW 9 [(tm 24)])),(wB 23 (AA (tm 25))),(wB 26 (AH 0 (tm 23))),(wB 27 (AH 1 (tm 23))),(wB 9 (AA (tm 26))),(wB 10 (AA (tm 27)))]) oe)
abbrev ov:CC:=(CC.seq (CC.region [(wB 34 (Ah 5 (tm 8))),(wB 35 (AA (tm 6))),(CO.mk G.none D.none Bool.true (CR.mk (Aq 5 (tm 2) (tm 34)))),(wB 3 (AA (tm 35))),(wB 4 (AA (oN 0)))]) CC.ret)
abbrev kS:CC:=(CC.seq rQ ov)
abbrev me:CC:=(CC.seq (CC.region [(wB 21 (AA (tm 5))),(wB 22 (AW 25 [(tm 21)])),(wB 8 (BN 24 [(V.i IntKind.i64 (Int.ofNat 0)),(V.i IntKind.i64 (Int.ofNat 0)),(V.i IntKind.i64 (Int.ofNat 0)),(V.b Bool.false),V.l0])),(CO.mk G.none D.none Bool.true (CR.mk (Aq 5 (tm 8) (tm 22))))]) kS)
abbrev az:CC:=(CC.seq mm me)
abbrev Ye:CC:=(CC.seq (CC.region [(wB 12 (AA (tm 0))),(wB 13 (AW 24 [(tm 12)])),(wB 11 (AA (tm 13))),(wB 14 (AH 0 (tm 11))),(wB 15 (AH 1 (tm 11))),(wB 16 (AH 2 (tm 11))),(wB 5 (AA (tm 14))),(wB 6 (AA (tm 15))),(wB 7 (AA (tm 16)))]) az)
abbrev Oo:CC:=(CC.seq (CC.region [(wB 2 (BN 24 [(V.i IntKind.i64 (Int.ofNat 0)),(V.i IntKind.i64 (Int.ofNat 0)),(V.i IntKind.i64 (Int.ofNat 0)),(V.b Bool.false),V.l0])),(wB 3 (AA (oN 0))),(wB 4 (AA (oN 0)))]) Ye)
theorem xI:AY Try.prog 11=⟨36,Oo,[(Rs.HI (AV 2) 5),(Rs.tmp (AV 3)),(Rs.tmp (AV 4))]⟩:=by kernel_rfl
abbrev nC:CC:=(CC.seq (CC.region [(wB 19 (AA (tm 5))),(wB 20 (AW 18 [(oN 1)])),(wB 21 (AW 37 [(tm 19),(tm 20)])),(wB 2 (AA (tm 21)))]) CC.ret)
abbrev kR:CC:=(CC.seq (CC.region [(wB 14 (AA (tm 3))),(wB 15 (AW 24 [(tm 14)])),(wB 13 (AA (tm 15))),(wB 16 (AH 0 (tm 13))),(wB 17 (AH 1 (tm 13))),(wB 18 (AH 2 (tm 13))),(wB 5 (AA (tm 16))),(wB 6 (AA (tm 17))),(wB 7 (AA (tm 18)))]) nC)
abbrev pF:CC:=(CC.seq (CC.region [(wB 9 (AA (tm 0))),(wB 10 (AW 36 [(oN 1),(tm 9)])),(wB 8 (AA (tm 10))),(wB 11 (AH 0 (tm 8))),(wB 12 (AH 1 (tm 8))),(wB 3 (AA (tm 11))),(wB 4 (AA (tm 12)))]) kR)
abbrev we:CC:=(CC.seq (CC.region [(wB 2 (AA (O.c (V.s 0 0))))]) pF)
theorem xc:AY Try.prog 20=⟨22,we,[(Rs.tmp (AV 2))]⟩:=by kernel_rfl
abbrev hX:CC:=(CC.cond (tm 10) CC.skip (CC.exit 0))
abbrev gi:CC:=(CC.seq (CC.region [(wB 9 (AA (tm 5))),(wB 10 (AX Cr (tm 9) (oN 3)))]) hX)
abbrev lD:CC:=(CC.region [(wB 28 (AA (tm 5))),(wB 29 (AX By (tm 28) (oN 1))),(wB 5 (AA (tm 29)))])
abbrev sc:CC:=(CC.seq (CC.region [(wB 25 (AA (tm 4))),(wB 26 (AA (tm 7))),(wB 27 (AX By (tm 25) (tm 26))),(wB 4 (AA (tm 27)))]) lD)
abbrev hO:CC:=(CC.seq (CC.region [(wB 22 (AA (tm 5))),(wB 23 (AA (tm 6))),(wB 24 (BD 3 1 (tm 3) (tm 22))),(CO.mk G.none D.none Bool.true (CR.mk (Aq 1 (tm 24) (tm 23))))]) sc)
abbrev jF:CC:=(CC.cond (tm 20) hO (CC.exit 0))
abbrev jn:CC:=(CC.seq (CC.region [(wB 21 (AX CY (tm 19) (oN 0))),(wB 20 (AA (tm 21)))]) jF)
abbrev oG:CC:=(CC.block 2 jn)
abbrev jl:CC:=(CC.seq (CC.region [(wB 19 (AA (tm 8)))]) oG)
abbrev jP:CC:=(CC.seq (CC.region [(wB 12 (AA (tm 0))),(wB 13 (AA (tm 4))),(wB 14 (Az (tm 12) (some (tm 13)) none)),(wB 15 (AW 41 [(tm 14)])),(wB 11 (AA (tm 15))),(wB 16 (AH 0 (tm 11))),(wB 17 (AH 1 (tm 11))),(wB 18 (AH 2 (tm 11))),(wB 6 (AA (tm 16))),(wB 7 (AA (tm 17))),(wB 8 (AA (tm 18)))]) jl)
abbrev dK:CC:=(CC.block 1 jP)
abbrev qb:CC:=(CC.seq gi dK)
abbrev bK:CC:=(CC.loop qb)
abbrev fc:CC:=(CC.block 0 bK)
abbrev eZ:CC:=(CC.seq (CC.region [(wB 38 (B1 [(V.i IntKind.i64 (Int.ofNat 0)),(V.i IntKind.i64 (Int.ofNat 0)),(V.i IntKind.i64 (Int.ofNat 0)),(V.b Bool.false),V.l0] [])),(CO.mk G.none D.none Bool.true (CR.mk (Aq 5 (tm 2) (tm 38))))]) CC.ret)
abbrev dG:CC:=(CC.cond (tm 37) eZ CC.skip)
abbrev gE:CC:=(CC.seq (CC.region [(wB 30 (AA (tm 5))),(wB 31 (AX Cr (tm 30) (oN 3))),(wB 32 (AA (tm 31))),(wG 32 false 33 (AA (tm 4))),(wG 32 false 34 (AA (tm 0))),(wG 32 false 35 (BH (tm 34))),(wG 32 false 36 (AX CY (tm 33) (tm 35))),(wB 37 (Ac (tm 32) (O.c (V.b Bool.true)) (tm 36)))]) dG)
abbrev fI:CC:=(CC.seq (CC.Bg [(uB 39 (BD 3 1 (tm 3) (oN 0))),(uB 40 (Aa (tm 39))),(uB 41 (BD 3 1 (tm 3) (oN 1))),(uB 42 (Aa (tm 41))),(uB 43 (BD 3 1 (tm 3) (oN 2))),(uB 44 (Aa (tm 43))),(uB 45 (AA (tm 0))),(uB 46 (AA (tm 4))),(uB 47 (B4 (tm 45) (tm 46))),(uB 48 (AX CY (tm 47) (O.c (V.i IntKind.u8 (Int.ofNat 1))))),(uB 49 (AA (tm 0))),(uB 50 (AA (tm 4))),(uB 51 (AX By (tm 50) (oN 1))),(uB 52 (Az (tm 49) (some (tm 51)) none)),(uB 53 (AW 42 [(tm 52)])),(uB 54 (B1 [(V.i IntKind.i64 (Int.ofNat 0)),(V.i IntKind.i64 (Int.ofNat 0)),(V.i IntKind.i64 (Int.ofNat 0)),(V.b Bool.false),V.l0] [(Pt.mk 0 1 (tm 40)),(Pt.mk 1 1 (tm 42)),(Pt.mk 2 1 (tm 44)),(Pt.mk 3 1 (tm 48)),(Pt.mk 4 1 (tm 53))])),(CO.mk G.none D.none Bool.true (CR.mk (Aq 5 (tm 2) (tm 54))))] (some ([14,16],[(1,[0,15]),(3,[0,15]),(5,[0,15])]))) CC.ret)
abbrev gG:CC:=(CC.seq gE fI)
abbrev eX:CC:=(CC.seq fc gG)
abbrev bC:CC:=(CC.seq CC.skip eX)
abbrev bn:CC:=(CC.seq (CC.region [(wB 4 (AA (oN 0))),(wB 5 (AA (oN 0)))]) bC)
abbrev bE:CC:=(CC.seq (CC.region [(wB 3 (BN 55 [(V.i IntKind.i64 (Int.ofNat 0)),(V.i IntKind.i64 (Int.ofNat 0)),(V.i IntKind.i64 (Int.ofNat 0))]))]) bn)
abbrev yS:CC:=(CC.seq (CC.region [(wB 2 (BN 24 [(V.i IntKind.i64 (Int.ofNat 0)),(V.i IntKind.i64 (Int.ofNat 0)),(V.i IntKind.i64 (Int.ofNat 0)),(V.b Bool.false),V.l0]))]) bE)
theorem xV:AY Try.prog 25=⟨55,yS,[(Rs.HI (AV 2) 5)]⟩:=by kernel_rfl
abbrev qT:CC:=(CC.seq (CC.region [(wB 17 (AA (tm 4))),(wB 2 (AA (tm 17)))]) CC.ret)
abbrev qW:CC:=(CC.seq (CC.region [(wB 8 (AW 18 [(oN 1)])),(wB 9 (AA (tm 0))),(wB 10 (BE (tm 8) (tm 9))),(wB 11 (AW 19 [(tm 10)])),(wB 12 (AW 53 [(tm 11)])),(wB 7 (AA (tm 12))),(wB 13 (AH 0 (tm 7))),(wB 14 (AH 1 (tm 7))),(wB 15 (AH 2 (tm 7))),(wB 16 (AH 3 (tm 7))),(wB 3 (AA (tm 13))),(wB 4 (AA (tm 14))),(wB 5 (AA (tm 15))),(wB 6 (AA (tm 16)))]) qT)
abbrev yT:CC:=(CC.seq (CC.region [(wB 2 (AA (O.c V.l0)))]) qW)
theorem yO:AY Try.prog 42=⟨18,yT,[(Rs.tmp (AV 2))]⟩:=by kernel_rfl
abbrev mT:CC:=(CC.seq (CC.region [(wB 3 (AG 0 (tm 1))),(wB 4 (Aa (tm 3))),(wB 5 (BH (tm 4))),(wB 6 (AX C6 (tm 5) (oN 12))),(wB 2 (AA (tm 6)))]) CC.ret)
abbrev wV:CC:=(CC.seq (CC.region [(wB 1 (Cn 39 (tm 0))),(wB 2 (AA (O.c (V.b Bool.false))))]) mT)
theorem yc:AY Try.prog 32=⟨7,wV,[(Rs.tmp (AV 2))]⟩:=by kernel_rfl
abbrev qf:CC:=(CC.seq (CC.region [(wB 5 (AA (tm 0))),(wB 6 (AA (tm 1))),(wB 7 (AW 45 [(tm 5),(tm 6)])),(wB 8 (AX Gt (tm 7) (oN 0))),(wB 4 (AA (tm 8)))]) CC.ret)
abbrev xE:CC:=(CC.seq (CC.region [(wB 4 (AA (O.c (V.b Bool.false))))]) qf)
theorem wy:AY Try.prog 31=⟨9,xE,[(Rs.tmp (AV 4))]⟩:=by kernel_rfl
abbrev lB:CC:=(CC.cond (tm 9) CC.skip (CC.exit 0))
abbrev sP:CC:=(CC.seq (CC.region [(wB 17 (AA (tm 5))),(wB 4 (AA (tm 17)))]) CC.ret)
abbrev iw:CC:=(CC.cond (tm 16) sP CC.skip)
abbrev rW:CC:=(CC.seq (CC.region [(wB 11 (AA (tm 1))),(wB 12 (AA (tm 0))),(wB 13 (AA (tm 5))),(wB 14 (As 3 (tm 12) (tm 13))),(wB 15 (Ah 3 (tm 14))),(wB 16 (Fm (tm 11) [(tm 15)]))]) iw)
abbrev mU:CC:=(CC.seq (CC.region [(wB 10 (AA (tm 8))),(wB 5 (AA (tm 10)))]) rW)
abbrev qK:CC:=(CC.block 1 mU)
abbrev iC:CC:=(CC.region [(wB 18 (AX By (tm 8) (oN 1))),(wB 8 (AA (tm 18)))])
abbrev kX:CC:=(CC.seq qK iC)
abbrev tM:CC:=(CC.seq lB kX)
abbrev ik:CC:=(CC.seq (CC.region [(wB 9 (AX Cr (tm 8) (tm 7)))]) tM)
abbrev qn:CC:=(CC.loop ik)
abbrev Zc:CC:=(CC.block 0 qn)
abbrev bQ:CC:=(CC.seq (CC.region [(wB 6 (AA (tm 0))),(wB 7 (CG (tm 6))),(wB 8 (AA (oN 0)))]) Zc)
abbrev cF:CC:=(CC.seq (CC.region [(wB 4 (AA (O.c (V.i IntKind.i64 (Int.negSucc 0)))))]) CC.ret)
abbrev aH:CC:=(CC.seq bQ cF)
abbrev xk:CC:=(CC.seq (CC.region [(wB 4 (AA (oN 0)))]) aH)
theorem xW:AY Try.prog 45=⟨19,xk,[(Rs.tmp (AV 4))]⟩:=by kernel_rfl
abbrev pR:CC:=(CC.seq (CC.region [(wB 4 (AA (O.c (V.b Bool.false))))]) CC.ret)
abbrev nS:CC:=(CC.cond (tm 10) pR CC.skip)
abbrev jd:CC:=(CC.seq (CC.region [(wB 6 (AA (tm 0))),(wB 7 (CG (tm 6))),(wB 8 (AA (tm 1))),(wB 9 (CG (tm 8))),(wB 10 (AX FI (tm 7) (tm 9)))]) nS)
abbrev sG:CC:=(CC.cond (tm 14) CC.skip (CC.exit 0))
abbrev tA:CC:=(CC.seq (CC.region [(wB 4 (AA (O.c (V.b Bool.false))))]) CC.ret)
abbrev qc:CC:=(CC.cond (tm 24) tA CC.skip)
abbrev qm:CC:=(CC.seq (CC.Bg [(uB 16 (AA (tm 0))),(uB 17 (AA (tm 5))),(uB 18 (As 3 (tm 16) (tm 17))),(uB 19 (Ah 3 (tm 18))),(uB 20 (AA (tm 1))),(uB 21 (AA (tm 5))),(uB 22 (As 3 (tm 20) (tm 21))),(uB 23 (Ah 3 (tm 22))),(uB 24 (IL [KD.s,KD.b,KD.s] Bool.true (tm 19) (tm 23)))] none) qc)
abbrev kO:CC:=(CC.seq (CC.region [(wB 15 (AA (tm 13))),(wB 5 (AA (tm 15)))]) qm)
abbrev rK:CC:=(CC.block 1 kO)
abbrev jL:CC:=(CC.region [(wB 25 (AX By (tm 13) (oN 1))),(wB 13 (AA (tm 25)))])
abbrev bW:CC:=(CC.seq rK jL)
abbrev fw:CC:=(CC.seq sG bW)
abbrev pd:CC:=(CC.seq (CC.region [(wB 14 (AX Cr (tm 13) (tm 12)))]) fw)
abbrev eP:CC:=(CC.loop pd)
abbrev aZ:CC:=(CC.block 0 eP)
abbrev Zr:CC:=(CC.seq (CC.region [(wB 11 (AA (tm 0))),(wB 12 (CG (tm 11))),(wB 13 (AA (oN 0)))]) aZ)
abbrev dW:CC:=(CC.seq (CC.region [(wB 4 (AA (O.c (V.b Bool.true))))]) CC.ret)
abbrev Yq:CC:=(CC.seq Zr dW)
abbrev YQ:CC:=(CC.seq jd Yq)
abbrev xn:CC:=(CC.seq (CC.region [(wB 4 (AA (O.c (V.b Bool.false))))]) YQ)
theorem w7:AY Try.prog 34=⟨26,xn,[(Rs.tmp (AV 4))]⟩:=by kernel_rfl
abbrev jb:CC:=(CC.seq (CC.region [(wB 5 (AA (tm 0))),(wB 6 (AA (tm 1))),(wB 7 (AW 51 [(tm 5),(tm 6)])),(wB 4 (AA (tm 7)))]) CC.ret)
abbrev yb:CC:=(CC.seq (CC.region [(wB 4 (AA (O.c (V.s 0 0))))]) jb)
theorem yH:AY Try.prog 37=⟨8,yb,[(Rs.tmp (AV 4))]⟩:=by kernel_rfl
abbrev mP:CC:=(CC.seq (CC.region [(wB 8 (AA (tm 0))),(wB 9 (AA (tm 1))),(wB 10 (BH (tm 9))),(wB 11 (Az (tm 8) (some (tm 10)) none)),(wB 4 (AA (tm 11)))]) CC.ret)
abbrev oO:CC:=(CC.cond (tm 7) mP CC.skip)
abbrev n7:CC:=(CC.seq (CC.region [(wB 5 (AA (tm 0))),(wB 6 (AA (tm 1))),(wB 7 (AW 56 [(tm 5),(tm 6)]))]) oO)
abbrev lS:CC:=(CC.seq (CC.region [(wB 12 (AA (tm 0))),(wB 4 (AA (tm 12)))]) CC.ret)
abbrev lQ:CC:=(CC.seq n7 lS)
abbrev yA:CC:=(CC.seq (CC.region [(wB 4 (AA (O.c (V.s 0 0))))]) lQ)
theorem yW:AY Try.prog 51=⟨13,yA,[(Rs.tmp (AV 4))]⟩:=by kernel_rfl
abbrev nR:CC:=(CC.seq (CC.region [(wB 5 (AA (tm 0))),(wB 6 (BH (tm 5))),(wB 7 (AA (tm 1))),(wB 8 (BH (tm 7))),(wB 9 (AX Gt (tm 6) (tm 8))),(wB 10 (AA (tm 9))),(wG 10 true 11 (AA (tm 0))),(wG 10 true 12 (AA (tm 1))),(wG 10 true 13 (BH (tm 12))),(wG 10 true 14 (Az (tm 11) none (some (tm 13)))),(wG 10 true 15 (AA (tm 1))),(wG 10 true 16 (CM Fw (tm 14) (tm 15))),(wB 17 (Ac (tm 10) (tm 16) (O.c (V.b Bool.false)))),(wB 4 (AA (tm 17)))]) CC.ret)
abbrev wq:CC:=(CC.seq (CC.region [(wB 4 (AA (O.c (V.b Bool.false))))]) nR)
theorem xS:AY Try.prog 56=⟨18,wq,[(Rs.tmp (AV 4))]⟩:=by kernel_rfl
end Go.Proofs.Ytmlcddeikgechaa
set_option maxRecDepth 1000000
namespace Go.Proofs.Ytmlcddeikgechaa
open Go Go.Ev
abbrev gw:CC:=(CC.seq (CC.region [(wB 2 (AA (O.c (V.b Bool.false))))]) CC.ret)
abbrev rj:CC:=(CC.cond (tm 7) gw CC.skip)
abbrev tF:CC:=(CC.seq (CC.region [(wB 5 (AA (tm 0))),(wB 6 (CG (tm 5))),(wB 7 (AX C6 (tm 6) (oN 8)))]) rj)
abbrev lF:CC:=(CC.cond (tm 11) CC.skip (CC.exit 0))
abbrev ku:CC:=(CC.seq (CC.region [(wB 2 (AA (O.c (V.b Bool.false))))]) CC.ret)
abbrev nE:CC:=(CC.cond (tm 17) ku CC.skip)
abbrev sQ:CC:=(CC.seq (CC.region [(wB 15 (Ah 3 (tm 4))),(wB 16 (AW 44 [(tm 15)])),(wB 17 (CN (tm 16)))]) nE)
abbrev kE:CC:=(CC.seq (CC.region [(wB 2 (AA (O.c (V.b Bool.false))))]) CC.ret)
abbrev rO:CC:=(CC.cond (tm 30) kE CC.skip)
abbrev gV:CC:=(CC.seq (CC.Bg [(uB 18 (AA (tm 3))),(uB 19 (AX C6 (tm 18) (oN 0))),(uB 20 (AA (tm 19))),(uG 20 true 21 (AA (tm 0))),(uG 20 true 22 (AA (tm 3))),(uG 20 true 23 (AX JD (tm 22) (oN 1))),(uG 20 true 24 (As 3 (tm 21) (tm 23))),(uG 20 true 25 (AG 0 (tm 24))),(uG 20 true 26 (Aa (tm 25))),(uG 20 true 27 (AG 0 (tm 4))),(uG 20 true 28 (Aa (tm 27))),(uG 20 true 29 (CM (fun a b c d=>!Hy a b c d) (tm 26) (tm 28))),(uB 30 (Ac (tm 20) (tm 29) (O.c (V.b Bool.false))))] none) rO)
abbrev aV:CC:=(CC.seq sQ gV)
abbrev ZU:CC:=(CC.seq (CC.region [(wB 12 (AA (tm 10))),(wB 13 (As 3 (tm 8) (tm 10))),(wB 14 (Ah 3 (tm 13))),(wB 4 (BN 39 [(V.s 0 0),(V.b Bool.false),(V.s 0 0)])),(wB 3 (AA (tm 12))),(CO.mk G.none D.none Bool.true (CR.mk (Aq 3 (tm 4) (tm 14))))]) aV)
abbrev bj:CC:=(CC.block 1 ZU)
abbrev Yj:CC:=(CC.region [(wB 31 (AX By (tm 10) (oN 1))),(wB 10 (AA (tm 31)))])
abbrev fX:CC:=(CC.seq bj Yj)
abbrev dO:CC:=(CC.seq lF fX)
abbrev sV:CC:=(CC.seq (CC.region [(wB 11 (AX Cr (tm 10) (tm 9)))]) dO)
abbrev bA:CC:=(CC.loop sV)
abbrev Yi:CC:=(CC.block 0 bA)
abbrev Y1:CC:=(CC.seq (CC.region [(wB 8 (AA (tm 0))),(wB 9 (CG (tm 8))),(wB 10 (AA (oN 0)))]) Yi)
abbrev dN:CC:=(CC.seq (CC.region [(wB 2 (AA (O.c (V.b Bool.true))))]) CC.ret)
abbrev cz:CC:=(CC.seq Y1 dN)
abbrev bR:CC:=(CC.seq tF cz)
abbrev wa:CC:=(CC.seq (CC.region [(wB 2 (AA (O.c (V.b Bool.false))))]) bR)
theorem wY:AY Try.prog 30=⟨32,wa,[(Rs.tmp (AV 2))]⟩:=by kernel_rfl
abbrev rA:CC:=(CC.seq (CC.region [(wB 4 (AA (O.c (V.s 0 0)))),(wB 5 (AA (oN 10)))]) CC.ret)
abbrev iy:CC:=(CC.cond (tm 19) rA CC.skip)
abbrev j6:CC:=(CC.seq (CC.region [(wB 9 (AA (tm 1))),(wB 10 (AW 30 [(tm 9)])),(wB 11 (CN (tm 10))),(wB 12 (AA (tm 11))),(wG 12 false 13 (AA (tm 0))),(wG 12 false 14 (AX Cr (tm 13) (oN 1))),(wB 15 (Ac (tm 12) (O.c (V.b Bool.true)) (tm 14))),(wB 16 (AA (tm 15))),(wG 16 false 17 (AA (tm 0))),(wG 16 false 18 (AX C6 (tm 17) (oN 1000000))),(wB 19 (Ac (tm 16) (O.c (V.b Bool.true)) (tm 18)))]) iy)
abbrev jk:CC:=(CC.cond (tm 30) CC.skip (CC.exit 0))
abbrev pV:CC:=(CC.region [(wB 33 (Ah 3 (tm 8))),(wB 34 (AW 49 [(tm 33)])),(wB 35 (AW 48 [(tm 6),(tm 34)]))])
abbrev iM:CC:=(CC.seq (CC.region [(wB 31 (As 3 (tm 27) (tm 29))),(wB 32 (Ah 3 (tm 31))),(wB 8 (BN 39 [(V.s 0 0),(V.b Bool.false),(V.s 0 0)])),(CO.mk G.none D.none Bool.true (CR.mk (Aq 3 (tm 8) (tm 32))))]) pV)
abbrev lM:CC:=(CC.block 1 iM)
abbrev mv:CC:=(CC.region [(wB 36 (AX By (tm 29) (oN 1))),(wB 29 (AA (tm 36)))])
abbrev mz:CC:=(CC.seq lM mv)
abbrev kG:CC:=(CC.seq jk mz)
abbrev hH:CC:=(CC.seq (CC.region [(wB 30 (AX Cr (tm 29) (tm 28)))]) kG)
abbrev aI:CC:=(CC.loop hH)
abbrev Y7:CC:=(CC.block 0 aI)
abbrev Yx:CC:=(CC.seq (CC.region [(wB 27 (AA (tm 1))),(wB 28 (CG (tm 27))),(wB 29 (AA (oN 0)))]) Y7)
abbrev eQ:CC:=(CC.seq (CC.region [(wB 37 (AW 50 [(tm 6)])),(wB 38 (AW 19 [(tm 37)])),(wB 4 (AA (tm 38))),(wB 5 (AA (oN 0)))]) CC.ret)
abbrev ak:CC:=(CC.seq Yx eQ)
abbrev cg:CC:=(CC.seq (CC.region [(wB 23 (AA (tm 1))),(wB 24 (CG (tm 23))),(wB 25 (AW 18 [(tm 24)])),(wB 26 (AW 48 [(tm 6),(tm 25)]))]) ak)
abbrev Yp:CC:=(CC.seq (CC.region [(wB 20 (AA (tm 0))),(wB 21 (AW 18 [(tm 20)])),(wB 22 (AW 48 [(tm 6),(tm 21)]))]) cg)
abbrev cw:CC:=(CC.seq (CC.region [(wB 6 (BN 77 [V.p0,V.l0]))]) Yp)
abbrev aJ:CC:=(CC.seq j6 cw)
abbrev yQ:CC:=(CC.seq (CC.region [(wB 4 (AA (O.c (V.s 0 0)))),(wB 5 (AA (oN 0)))]) aJ)
theorem yE:AY Try.prog 36=⟨39,yQ,[(Rs.tmp (AV 4)),(Rs.tmp (AV 5))]⟩:=by kernel_rfl
abbrev pO:CC:=(CC.seq (CC.region [(wB 21 (AA (tm 8))),(wB 2 (AA (oN 0))),(wB 3 (AA (O.c V.l0))),(wB 4 (AA (oN 0))),(wB 5 (AA (tm 21)))]) CC.ret)
abbrev j0:CC:=(CC.cond (tm 20) pO CC.skip)
abbrev mj:CC:=(CC.seq (CC.region [(wB 19 (AA (tm 8))),(wB 20 (AX FI (tm 19) (oN 0)))]) j0)
abbrev pe:CC:=(CC.seq (CC.region [(wB 2 (AA (oN 0))),(wB 3 (AA (O.c V.l0))),(wB 4 (AA (oN 0))),(wB 5 (AA (oN 10)))]) CC.ret)
abbrev sX:CC:=(CC.cond (tm 37) pe CC.skip)
abbrev mC:CC:=(CC.seq (CC.region [(wB 33 (AA (tm 11))),(wB 34 (AA (tm 0))),(wB 35 (AA (tm 7))),(wB 36 (Az (tm 34) none (some (tm 35)))),(wB 37 (CM (fun a b c d=>!Fw a b c d) (tm 33) (tm 36)))]) sX)
abbrev oR:CC:=(CC.seq (CC.region [(wB 28 (AA (tm 9))),(wB 29 (AA (tm 10))),(wB 30 (AW 36 [(tm 28),(tm 29)])),(wB 27 (AA (tm 30))),(wB 31 (AH 0 (tm 27))),(wB 32 (AH 1 (tm 27))),(wB 11 (AA (tm 31))),(wB 12 (AA (tm 32)))]) mC)
abbrev rD:CC:=(CC.seq (CC.region [(wB 38 (AA (tm 9))),(wB 39 (AA (tm 10))),(wB 40 (AA (tm 7))),(wB 2 (AA (tm 38))),(wB 3 (AA (tm 39))),(wB 4 (AA (tm 40))),(wB 5 (AA (oN 0)))]) CC.ret)
abbrev qu:CC:=(CC.seq oR rD)
abbrev rk:CC:=(CC.seq (CC.region [(wB 23 (AA (tm 6))),(wB 24 (AW 57 [(tm 23)])),(wB 22 (AA (tm 24))),(wB 25 (AH 0 (tm 22))),(wB 26 (AH 1 (tm 22))),(wB 9 (AA (tm 25))),(wB 10 (AA (tm 26)))]) qu)
abbrev Yt:CC:=(CC.seq mj rk)
abbrev Zk:CC:=(CC.seq (CC.region [(wB 14 (AA (tm 0))),(wB 15 (AW 24 [(tm 14)])),(wB 13 (AA (tm 15))),(wB 16 (AH 0 (tm 13))),(wB 17 (AH 1 (tm 13))),(wB 18 (AH 2 (tm 13))),(wB 6 (AA (tm 16))),(wB 7 (AA (tm 17))),(wB 8 (AA (tm 18)))]) Yt)
abbrev xP:CC:=(CC.seq (CC.region [(wB 2 (AA (oN 0))),(wB 3 (AA (O.c V.l0))),(wB 4 (AA (oN 0))),(wB 5 (AA (oN 0)))]) Zk)
theorem wx:AY Try.prog 53=⟨41,xP,[(Rs.tmp (AV 2)),(Rs.tmp (AV 3)),(Rs.tmp (AV 4)),(Rs.tmp (AV 5))]⟩:=by kernel_rfl
abbrev jQ:CC:=(CC.seq (CC.Bg [(uB 5 (AG 0 (tm 1))),(uB 6 (Aa (tm 5))),(uB 7 (AW 55 [(tm 6)])),(uB 8 (A9 5 1 [(V.i IntKind.u8 (Int.ofNat 0))] [(Pt.mk 0 1 (O.c (V.i IntKind.u8 (Int.ofNat 1))))])),(uB 9 (Dl (tm 8))),(uB 10 (BE (tm 7) (tm 9))),(uB 2 (AA (tm 10)))] none) CC.ret)
abbrev ga:CC:=(CC.cond (tm 4) jQ CC.skip)
abbrev tJ:CC:=(CC.seq (CC.region [(wB 3 (AG 1 (tm 1))),(wB 4 (Aa (tm 3)))]) ga)
abbrev iF:CC:=(CC.seq (CC.Bg [(uB 11 (AG 0 (tm 1))),(uB 12 (Aa (tm 11))),(uB 13 (AW 55 [(tm 12)])),(uB 14 (A9 5 1 [(V.i IntKind.u8 (Int.ofNat 0))] [(Pt.mk 0 1 (O.c (V.i IntKind.u8 (Int.ofNat 0))))])),(uB 15 (Dl (tm 14))),(uB 16 (BE (tm 13) (tm 15))),(uB 17 (AG 2 (tm 1))),(uB 18 (Aa (tm 17))),(uB 19 (AW 55 [(tm 18)])),(uB 20 (BE (tm 16) (tm 19))),(uB 2 (AA (tm 20)))] none) CC.ret)
abbrev qB:CC:=(CC.seq tJ iF)
abbrev wi:CC:=(CC.seq (CC.region [(wB 1 (Cn 39 (tm 0))),(wB 2 (AA (O.c (V.s 0 0))))]) qB)
theorem yC:AY Try.prog 49=⟨21,wi,[(Rs.tmp (AV 2))]⟩:=by kernel_rfl
abbrev qk:CC:=(CC.seq (CC.region [(wB 2 (AA (oN 0))),(wB 3 (AA (O.c V.l0)))]) CC.ret)
abbrev tK:CC:=(CC.cond (tm 20) qk CC.skip)
abbrev qH:CC:=(CC.seq (CC.region [(wB 19 (AA (tm 6))),(wB 20 (AX FI (tm 19) (oN 0)))]) tK)
abbrev pX:CC:=(CC.seq (CC.region [(wB 2 (AA (oN 0))),(wB 3 (AA (O.c V.l0)))]) CC.ret)
abbrev sF:CC:=(CC.cond (tm 34) pX CC.skip)
abbrev iE:CC:=(CC.seq (CC.region [(wB 29 (AA (tm 6))),(wB 30 (AX FI (tm 29) (oN 0))),(wB 31 (AA (tm 30))),(wG 31 false 32 (AA (tm 7))),(wG 31 false 33 (AX C6 (tm 32) (oN 8))),(wB 34 (Ac (tm 31) (O.c (V.b Bool.true)) (tm 33)))]) sF)
abbrev lh:CC:=(CC.cond (tm 40) CC.skip (CC.exit 0))
abbrev pS:CC:=(CC.seq (CC.region [(wB 2 (AA (oN 0))),(wB 3 (AA (O.c V.l0)))]) CC.ret)
abbrev tH:CC:=(CC.cond (tm 50) pS CC.skip)
abbrev kZ:CC:=(CC.seq (CC.region [(wB 49 (AA (tm 12))),(wB 50 (CN (tm 49)))]) tH)
abbrev Y3:CC:=(CC.region [(wB 55 (AA (tm 5))),(wB 56 (AA (tm 11))),(wB 57 (AX By (tm 55) (tm 56))),(wB 5 (AA (tm 57)))])
abbrev dU:CC:=(CC.seq (CC.region [(wB 51 (AA (tm 9))),(wB 52 (Ah 3 (tm 10))),(wB 53 (A9 39 1 [(V.s 0 0),(V.b Bool.false),(V.s 0 0)] [(Pt.mk 0 3 (tm 52))])),(wB 54 (CE 39 3 (tm 51) (tm 53))),(wB 9 (AA (tm 54)))]) Y3)
abbrev Zi:CC:=(CC.seq kZ dU)
abbrev da:CC:=(CC.seq (CC.region [(wB 42 (AA (tm 0))),(wB 43 (AA (tm 5))),(wB 44 (Az (tm 42) (some (tm 43)) none)),(wB 45 (AW 59 [(tm 44)])),(wB 41 (AA (tm 45))),(wB 46 (AH 0 (tm 41))),(wB 47 (AH 1 (tm 41))),(wB 48 (AH 2 (tm 41))),(wB 10 (BN 39 [(V.s 0 0),(V.b Bool.false),(V.s 0 0)])),(CO.mk G.none D.none Bool.true (CR.mk (Aq 3 (tm 10) (tm 46)))),(wB 11 (AA (tm 47))),(wB 12 (AA (tm 48)))]) Zi)
abbrev ZA:CC:=(CC.block 1 da)
abbrev cI:CC:=(CC.region [(wB 58 (AX By (tm 39) (oN 1))),(wB 39 (AA (tm 58)))])
abbrev fV:CC:=(CC.seq ZA cI)
abbrev Yu:CC:=(CC.seq lh fV)
abbrev qJ:CC:=(CC.seq (CC.region [(wB 40 (AX Cr (tm 39) (tm 38)))]) Yu)
abbrev cC:CC:=(CC.loop qJ)
abbrev cH:CC:=(CC.block 0 cC)
abbrev Yz:CC:=(CC.seq (CC.region [(wB 38 (AA (tm 7))),(wB 39 (AA (oN 0)))]) cH)
abbrev bU:CC:=(CC.seq (CC.region [(wB 59 (AA (tm 4))),(wB 60 (AA (tm 9))),(wB 2 (AA (tm 59))),(wB 3 (AA (tm 60)))]) CC.ret)
abbrev eS:CC:=(CC.seq Yz bU)
abbrev bo:CC:=(CC.seq (CC.region [(wB 9 (AA (O.c V.l0)))]) eS)
abbrev dg:CC:=(CC.seq (CC.region [(wB 35 (AA (tm 5))),(wB 36 (AA (tm 8))),(wB 37 (AX By (tm 35) (tm 36))),(wB 5 (AA (tm 37)))]) bo)
abbrev Zo:CC:=(CC.seq iE dg)
abbrev cv:CC:=(CC.seq (CC.region [(wB 22 (AA (tm 0))),(wB 23 (AA (tm 5))),(wB 24 (Az (tm 22) (some (tm 23)) none)),(wB 25 (AW 41 [(tm 24)])),(wB 21 (AA (tm 25))),(wB 26 (AH 0 (tm 21))),(wB 27 (AH 1 (tm 21))),(wB 28 (AH 2 (tm 21))),(wB 7 (AA (tm 26))),(wB 8 (AA (tm 27))),(wB 6 (AA (tm 28)))]) Zo)
abbrev di:CC:=(CC.seq qH cv)
abbrev dq:CC:=(CC.seq (CC.region [(wB 14 (AA (tm 0))),(wB 15 (AW 41 [(tm 14)])),(wB 13 (AA (tm 15))),(wB 16 (AH 0 (tm 13))),(wB 17 (AH 1 (tm 13))),(wB 18 (AH 2 (tm 13))),(wB 4 (AA (tm 16))),(wB 5 (AA (tm 17))),(wB 6 (AA (tm 18)))]) di)
abbrev xo:CC:=(CC.seq (CC.region [(wB 2 (AA (oN 0))),(wB 3 (AA (O.c V.l0)))]) dq)
theorem xl:AY Try.prog 57=⟨61,xo,[(Rs.tmp (AV 2)),(Rs.tmp (AV 3))]⟩:=by kernel_rfl
abbrev tE:CC:=(CC.seq (CC.region [(wB 26 (B1 [(V.s 0 0),(V.b Bool.false),(V.s 0 0)] [])),(CO.mk G.none D.none Bool.true (CR.mk (Aq 3 (tm 2) (tm 26)))),(wB 3 (AA (oN 0))),(wB 4 (AA (O.c (V.b Bool.false))))]) CC.ret)
abbrev rm:CC:=(CC.cond (tm 25) tE CC.skip)
abbrev iY:CC:=(CC.seq (CC.region [(wB 18 (AA (tm 7))),(wB 19 (AX FI (tm 18) (oN 0))),(wB 20 (AA (tm 19))),(wG 20 false 21 (AA (tm 6))),(wG 20 false 22 (AA (tm 0))),(wG 20 false 23 (BH (tm 22))),(wG 20 false 24 (AX CY (tm 21) (tm 23))),(wB 25 (Ac (tm 20) (O.c (V.b Bool.true)) (tm 24)))]) rm)
abbrev qe:CC:=(CC.seq (CC.region [(wB 44 (AA (tm 5))),(wB 45 (AA (tm 9))),(wB 46 (B1 [(V.s 0 0),(V.b Bool.false),(V.s 0 0)] [(Pt.mk 0 1 (tm 44)),(Pt.mk 2 1 (tm 45))])),(wB 47 (AA (tm 6))),(wB 48 (AA (tm 10))),(wB 49 (AX By (tm 47) (tm 48))),(wB 50 (AA (tm 11))),(wB 51 (AX CY (tm 50) (oN 0))),(CO.mk G.none D.none Bool.true (CR.mk (Aq 3 (tm 2) (tm 46)))),(wB 3 (AA (tm 49))),(wB 4 (AA (tm 51)))]) CC.ret)
abbrev kA:CC:=(CC.seq (CC.region [(wB 37 (AA (tm 0))),(wB 38 (AA (tm 6))),(wB 39 (Az (tm 37) (some (tm 38)) none)),(wB 40 (AW 60 [(tm 39)])),(wB 36 (AA (tm 40))),(wB 41 (AH 0 (tm 36))),(wB 42 (AH 1 (tm 36))),(wB 43 (AH 2 (tm 36))),(wB 9 (AA (tm 41))),(wB 10 (AA (tm 42))),(wB 11 (AA (tm 43)))]) qe)
abbrev mG:CC:=(CC.seq (CC.region [(wB 54 (AA (tm 5))),(wB 55 (B1 [(V.s 0 0),(V.b Bool.false),(V.s 0 0)] [(Pt.mk 0 1 (tm 54)),(Pt.mk 1 1 (O.c (V.b Bool.true)))])),(wB 56 (AA (tm 6))),(CO.mk G.none D.none Bool.true (CR.mk (Aq 3 (tm 2) (tm 55)))),(wB 3 (AA (tm 56))),(wB 4 (AA (O.c (V.b Bool.true))))]) CC.ret)
abbrev oJ:CC:=(CC.seq (CC.region [(wB 33 (B1 [(V.s 0 0),(V.b Bool.false),(V.s 0 0)] [])),(CO.mk G.none D.none Bool.true (CR.mk (Aq 3 (tm 2) (tm 33)))),(wB 3 (AA (oN 0))),(wB 4 (AA (O.c (V.b Bool.false))))]) CC.ret)
abbrev ju:CC:=(CC.cond (tm 52) mG oJ)
abbrev kF:CC:=(CC.seq (CC.region [(wB 53 (AX CY (tm 32) (O.c (V.i IntKind.u8 (Int.ofNat 1))))),(wB 52 (AA (tm 53)))]) ju)
abbrev jD:CC:=(CC.cond (tm 34) kA kF)
abbrev ao:CC:=(CC.seq (CC.region [(wB 35 (AX CY (tm 32) (O.c (V.i IntKind.u8 (Int.ofNat 0))))),(wB 34 (AA (tm 35)))]) jD)
abbrev Zt:CC:=(CC.block 0 ao)
abbrev bt:CC:=(CC.seq (CC.region [(wB 32 (AA (tm 8)))]) Zt)
abbrev YW:CC:=(CC.seq (CC.region [(wB 30 (AA (tm 6))),(wB 31 (AX By (tm 30) (oN 1))),(wB 6 (AA (tm 31)))]) bt)
abbrev fe:CC:=(CC.seq (CC.region [(wB 27 (AA (tm 0))),(wB 28 (AA (tm 6))),(wB 29 (B4 (tm 27) (tm 28))),(wB 8 (AA (tm 29)))]) YW)
abbrev Z0:CC:=(CC.seq iY fe)
abbrev Zq:CC:=(CC.seq (CC.region [(wB 13 (AA (tm 0))),(wB 14 (AW 60 [(tm 13)])),(wB 12 (AA (tm 14))),(wB 15 (AH 0 (tm 12))),(wB 16 (AH 1 (tm 12))),(wB 17 (AH 2 (tm 12))),(wB 5 (AA (tm 15))),(wB 6 (AA (tm 16))),(wB 7 (AA (tm 17)))]) Z0)
abbrev yF:CC:=(CC.seq (CC.region [(wB 2 (BN 39 [(V.s 0 0),(V.b Bool.false),(V.s 0 0)])),(wB 3 (AA (oN 0))),(wB 4 (AA (O.c (V.b Bool.false))))]) Zq)
theorem xw:AY Try.prog 59=⟨57,yF,[(Rs.HI (AV 2) 3),(Rs.tmp (AV 3)),(Rs.tmp (AV 4))]⟩:=by kernel_rfl
end Go.Proofs.Ytmlcddeikgechaa
set_option maxRecDepth 1000000
namespace Go.Proofs.Ytmlcddeikgechaa
open Go Go.Ev
abbrev jG:CC:=(CC.cond (tm 7) CC.skip (CC.exit 0))
abbrev j7:CC:=(CC.seq (CC.region [(wB 4 (AA (tm 3))),(wB 5 (AA (tm 0))),(wB 6 (CG (tm 5))),(wB 7 (AX Cr (tm 4) (tm 6)))]) jG)
abbrev ng:CC:=(CC.seq (CC.region [(wB 2 (AA (O.c (V.b Bool.false))))]) CC.ret)
abbrev oL:CC:=(CC.cond (tm 33) ng CC.skip)
abbrev iP:CC:=(CC.seq (CC.Bg [(uB 10 (AA (tm 0))),(uB 11 (AA (tm 3))),(uB 12 (As 3 (tm 10) (tm 11))),(wB 13 (Ah 3 (tm 12))),(wB 14 (AW 46 [(tm 13)])),(uB 15 (CN (tm 14))),(uB 16 (AA (tm 15))),(uG 16 false 17 (AA (tm 3))),(uG 16 false 18 (AX C6 (tm 17) (oN 0))),(uG 16 false 19 (AA (tm 18))),(uG 19 true 20 (AA (tm 0))),(uG 19 true 21 (AA (tm 3))),(uG 19 true 22 (As 3 (tm 20) (tm 21))),(uG 19 true 23 (AG 0 (tm 22))),(uG 19 true 24 (Aa (tm 23))),(uG 19 true 25 (AA (tm 0))),(uG 19 true 26 (AA (tm 3))),(uG 19 true 27 (AX JD (tm 26) (oN 1))),(uG 19 true 28 (As 3 (tm 25) (tm 27))),(uG 19 true 29 (AG 0 (tm 28))),(uG 19 true 30 (Aa (tm 29))),(uG 19 true 31 (CM (fun a b c d=>Hy a b c d||Fw a b c d) (tm 24) (tm 30))),(uG 16 false 32 (Ac (tm 19) (tm 31) (O.c (V.b Bool.false)))),(uB 33 (Ac (tm 16) (O.c (V.b Bool.true)) (tm 32)))] none) oL)
abbrev rS:CC:=(CC.block 1 iP)
abbrev oW:CC:=(CC.region [(wB 8 (AA (tm 3))),(wB 9 (AX By (tm 8) (oN 1))),(wB 3 (AA (tm 9)))])
abbrev nU:CC:=(CC.seq rS oW)
abbrev rY:CC:=(CC.seq j7 nU)
abbrev p9:CC:=(CC.loop rY)
abbrev jT:CC:=(CC.block 0 p9)
abbrev cO:CC:=(CC.seq (CC.region [(wB 3 (AA (oN 0)))]) jT)
abbrev Z7:CC:=(CC.seq (CC.region [(wB 34 (AA (tm 0))),(wB 35 (CG (tm 34))),(wB 36 (AX Hn (tm 35) (oN 8))),(wB 2 (AA (tm 36)))]) CC.ret)
abbrev ZZ:CC:=(CC.seq cO Z7)
abbrev wo:CC:=(CC.seq (CC.region [(wB 2 (AA (O.c (V.b Bool.false))))]) ZZ)
theorem yV:AY Try.prog 33=⟨37,wo,[(Rs.tmp (AV 2))]⟩:=by kernel_rfl
abbrev qx:CC:=(CC.seq (CC.region [(wB 4 (AA (O.c (V.b Bool.false))))]) CC.ret)
abbrev gO:CC:=(CC.cond (tm 10) qx CC.skip)
abbrev gn:CC:=(CC.seq (CC.region [(wB 6 (AA (tm 0))),(wB 7 (CG (tm 6))),(wB 8 (AA (tm 1))),(wB 9 (CG (tm 8))),(wB 10 (AX FI (tm 7) (tm 9)))]) gO)
abbrev gQ:CC:=(CC.cond (tm 14) CC.skip (CC.exit 0))
abbrev ki:CC:=(CC.seq (CC.region [(wB 11 (AA (tm 5))),(wB 12 (AA (tm 0))),(wB 13 (CG (tm 12))),(wB 14 (AX Cr (tm 11) (tm 13)))]) gQ)
abbrev nK:CC:=(CC.seq (CC.region [(wB 4 (AA (O.c (V.b Bool.false))))]) CC.ret)
abbrev kC:CC:=(CC.cond (tm 25) nK CC.skip)
abbrev tP:CC:=(CC.seq (CC.Bg [(uB 17 (AA (tm 0))),(uB 18 (AA (tm 5))),(uB 19 (As 3 (tm 17) (tm 18))),(uB 20 (Ah 3 (tm 19))),(uB 21 (AA (tm 1))),(uB 22 (AA (tm 5))),(uB 23 (As 3 (tm 21) (tm 22))),(uB 24 (Ah 3 (tm 23))),(uB 25 (IL [KD.s,KD.b,KD.s] Bool.true (tm 20) (tm 24)))] none) kC)
abbrev qL:CC:=(CC.block 1 tP)
abbrev kq:CC:=(CC.region [(wB 15 (AA (tm 5))),(wB 16 (AX By (tm 15) (oN 1))),(wB 5 (AA (tm 16)))])
abbrev dE:CC:=(CC.seq qL kq)
abbrev j8:CC:=(CC.seq ki dE)
abbrev dv:CC:=(CC.loop j8)
abbrev ZK:CC:=(CC.block 0 dv)
abbrev dz:CC:=(CC.seq (CC.region [(wB 5 (AA (oN 0)))]) ZK)
abbrev Y8:CC:=(CC.seq (CC.region [(wB 4 (AA (O.c (V.b Bool.true))))]) CC.ret)
abbrev aa:CC:=(CC.seq dz Y8)
abbrev eH:CC:=(CC.seq gn aa)
abbrev x9:CC:=(CC.seq (CC.region [(wB 4 (AA (O.c (V.b Bool.false))))]) eH)
theorem xp:AY Try.prog 29=⟨26,x9,[(Rs.tmp (AV 4))]⟩:=by kernel_rfl
abbrev ib:CC:=(CC.cond (tm 11) CC.skip (CC.exit 0))
abbrev nf:CC:=(CC.seq (CC.region [(wB 8 (AA (tm 4))),(wB 9 (AA (tm 0))),(wB 10 (CG (tm 9))),(wB 11 (AX Cr (tm 8) (tm 10)))]) ib)
abbrev mE:CC:=(CC.region [(wB 27 (AA (tm 3))),(wB 28 (BE (tm 27) (O.c (V.s 1 1)))),(wB 3 (AA (tm 28)))])
abbrev jR:CC:=(CC.region [(wB 29 (AA (tm 3))),(wB 30 (BE (tm 29) (O.c (V.s 1 0)))),(wB 31 (AA (tm 0))),(wB 32 (AA (tm 4))),(wB 33 (As 3 (tm 31) (tm 32))),(wB 34 (AG 2 (tm 33))),(wB 35 (Aa (tm 34))),(wB 36 (AW 40 [(tm 35)])),(wB 37 (BE (tm 30) (tm 36))),(wB 3 (AA (tm 37)))])
abbrev jI:CC:=(CC.cond (tm 26) mE jR)
abbrev jy:CC:=(CC.seq (CC.region [(wB 22 (AA (tm 0))),(wB 23 (AA (tm 4))),(wB 24 (As 3 (tm 22) (tm 23))),(wB 25 (AG 1 (tm 24))),(wB 26 (Aa (tm 25)))]) jI)
abbrev ou:CC:=(CC.seq (CC.region [(wB 14 (AA (tm 3))),(wB 15 (AA (tm 0))),(wB 16 (AA (tm 4))),(wB 17 (As 3 (tm 15) (tm 16))),(wB 18 (AG 0 (tm 17))),(wB 19 (Aa (tm 18))),(wB 20 (AW 40 [(tm 19)])),(wB 21 (BE (tm 14) (tm 20))),(wB 3 (AA (tm 21)))]) jy)
abbrev tB:CC:=(CC.block 1 ou)
abbrev iX:CC:=(CC.region [(wB 12 (AA (tm 4))),(wB 13 (AX By (tm 12) (oN 1))),(wB 4 (AA (tm 13)))])
abbrev sU:CC:=(CC.seq tB iX)
abbrev oS:CC:=(CC.seq nf sU)
abbrev YV:CC:=(CC.loop oS)
abbrev Yf:CC:=(CC.block 0 YV)
abbrev Yb:CC:=(CC.seq (CC.region [(wB 4 (AA (oN 0)))]) Yf)
abbrev eJ:CC:=(CC.seq (CC.region [(wB 38 (AA (tm 3))),(wB 2 (AA (tm 38)))]) CC.ret)
abbrev du:CC:=(CC.seq Yb eJ)
abbrev cb:CC:=(CC.seq (CC.region [(wB 5 (AA (tm 0))),(wB 6 (CG (tm 5))),(wB 7 (AW 22 [(tm 6)])),(wB 3 (AA (tm 7)))]) du)
abbrev x8:CC:=(CC.seq (CC.region [(wB 2 (AA (O.c (V.s 0 0))))]) cb)
theorem xR:AY Try.prog 23=⟨39,x8,[(Rs.tmp (AV 2))]⟩:=by kernel_rfl
abbrev lU:CC:=(CC.seq (CC.region [(wB 2 (AA (O.c V.l0))),(wB 3 (AA (oN 0))),(wB 4 (AA (O.c (V.b Bool.false))))]) CC.ret)
abbrev pG:CC:=(CC.cond (tm 28) lU CC.skip)
abbrev kf:CC:=(CC.seq (CC.region [(wB 23 (AA (tm 7))),(wB 24 (AX FI (tm 23) (oN 0))),(wB 25 (AA (tm 24))),(wG 25 false 26 (AA (tm 5))),(wG 25 false 27 (AX C6 (tm 26) (oN 8))),(wB 28 (Ac (tm 25) (O.c (V.b Bool.true)) (tm 27)))]) pG)
abbrev kH:CC:=(CC.cond (tm 31) CC.skip (CC.exit 0))
abbrev lf:CC:=(CC.seq (CC.region [(wB 29 (AA (tm 9))),(wB 30 (AA (tm 5))),(wB 31 (AX Cr (tm 29) (tm 30)))]) kH)
abbrev pY:CC:=(CC.seq (CC.region [(wB 2 (AA (O.c V.l0))),(wB 3 (AA (oN 0))),(wB 4 (AA (O.c (V.b Bool.false))))]) CC.ret)
abbrev gu:CC:=(CC.cond (tm 51) pY CC.skip)
abbrev ll:CC:=(CC.seq (CC.region [(wB 42 (AA (tm 12))),(wB 43 (AX FI (tm 42) (oN 0))),(wB 44 (AA (tm 43))),(wG 44 false 45 (AA (tm 6))),(wG 44 false 46 (AA (tm 11))),(wG 44 false 47 (AX By (tm 45) (tm 46))),(wG 44 false 48 (AA (tm 0))),(wG 44 false 49 (BH (tm 48))),(wG 44 false 50 (AX CY (tm 47) (tm 49))),(wB 51 (Ac (tm 44) (O.c (V.b Bool.true)) (tm 50)))]) gu)
abbrev sk:CC:=(CC.seq (CC.region [(wB 2 (AA (O.c V.l0))),(wB 3 (AA (oN 0))),(wB 4 (AA (O.c (V.b Bool.false))))]) CC.ret)
abbrev iR:CC:=(CC.cond (tm 76) sk CC.skip)
abbrev aj:CC:=(CC.seq (CC.region [(wB 75 (AA (tm 16))),(wB 76 (AX FI (tm 75) (oN 0)))]) iR)
abbrev fg:CC:=(CC.region [(wB 79 (AA (tm 6))),(wB 80 (AA (tm 15))),(wB 81 (AX By (tm 79) (tm 80))),(wB 6 (AA (tm 81)))])
abbrev ft:CC:=(CC.seq (CC.region [(wB 77 (AA (tm 14))),(wB 78 (AG 2 (tm 13))),(CO.mk G.none D.none Bool.true (CR.mk (Aq 1 (tm 78) (tm 77))))]) fg)
abbrev cp:CC:=(CC.seq aj ft)
abbrev eE:CC:=(CC.seq (CC.region [(wB 68 (AA (tm 0))),(wB 69 (AA (tm 6))),(wB 70 (Az (tm 68) (some (tm 69)) none)),(wB 71 (AW 43 [(tm 70)])),(wB 67 (AA (tm 71))),(wB 72 (AH 0 (tm 67))),(wB 73 (AH 1 (tm 67))),(wB 74 (AH 2 (tm 67))),(wB 14 (AA (tm 72))),(wB 15 (AA (tm 73))),(wB 16 (AA (tm 74)))]) cp)
abbrev aR:CC:=(CC.cond (tm 66) eE CC.skip)
abbrev bd:CC:=(CC.seq (CC.region [(wB 64 (AG 1 (tm 13))),(wB 65 (Aa (tm 64))),(wB 66 (CN (tm 65)))]) aR)
abbrev Z1:CC:=(CC.region [(wB 82 (AA (tm 8))),(wB 83 (Ah 3 (tm 13))),(wB 84 (A9 39 1 [(V.s 0 0),(V.b Bool.false),(V.s 0 0)] [(Pt.mk 0 3 (tm 83))])),(wB 85 (CE 39 3 (tm 82) (tm 84))),(wB 8 (AA (tm 85)))])
abbrev fL:CC:=(CC.seq bd Z1)
abbrev cY:CC:=(CC.seq (CC.region [(wB 60 (AA (tm 6))),(wB 61 (AA (tm 11))),(wB 62 (AX By (tm 60) (tm 61))),(wB 63 (AX By (tm 62) (oN 1))),(wB 6 (AA (tm 63)))]) fL)
abbrev cx:CC:=(CC.seq (CC.region [(wB 52 (AA (tm 10))),(wB 53 (AA (tm 0))),(wB 54 (AA (tm 6))),(wB 55 (AA (tm 11))),(wB 56 (AX By (tm 54) (tm 55))),(wB 57 (B4 (tm 53) (tm 56))),(wB 58 (AX CY (tm 57) (O.c (V.i IntKind.u8 (Int.ofNat 1))))),(wB 59 (B1 [(V.s 0 0),(V.b Bool.false),(V.s 0 0)] [(Pt.mk 0 1 (tm 52)),(Pt.mk 1 1 (tm 58))])),(wB 13 (BN 39 [(V.s 0 0),(V.b Bool.false),(V.s 0 0)])),(CO.mk G.none D.none Bool.true (CR.mk (Aq 3 (tm 13) (tm 59))))]) cY)
abbrev ZB:CC:=(CC.seq ll cx)
abbrev aO:CC:=(CC.seq (CC.region [(wB 35 (AA (tm 0))),(wB 36 (AA (tm 6))),(wB 37 (Az (tm 35) (some (tm 36)) none)),(wB 38 (AW 43 [(tm 37)])),(wB 34 (AA (tm 38))),(wB 39 (AH 0 (tm 34))),(wB 40 (AH 1 (tm 34))),(wB 41 (AH 2 (tm 34))),(wB 10 (AA (tm 39))),(wB 11 (AA (tm 40))),(wB 12 (AA (tm 41)))]) ZB)
abbrev Ya:CC:=(CC.block 1 aO)
abbrev eA:CC:=(CC.region [(wB 32 (AA (tm 9))),(wB 33 (AX By (tm 32) (oN 1))),(wB 9 (AA (tm 33)))])
abbrev Yd:CC:=(CC.seq Ya eA)
abbrev r8:CC:=(CC.seq lf Yd)
abbrev aK:CC:=(CC.loop r8)
abbrev gK:CC:=(CC.block 0 aK)
abbrev Ym:CC:=(CC.seq (CC.region [(wB 9 (AA (oN 0)))]) gK)
abbrev fZ:CC:=(CC.seq (CC.region [(wB 86 (AA (tm 8))),(wB 87 (AA (tm 6))),(wB 2 (AA (tm 86))),(wB 3 (AA (tm 87))),(wB 4 (AA (O.c (V.b Bool.true))))]) CC.ret)
abbrev eR:CC:=(CC.seq Ym fZ)
abbrev Yl:CC:=(CC.seq (CC.region [(wB 8 (AA (O.c V.l0)))]) eR)
abbrev cn:CC:=(CC.seq kf Yl)
abbrev eL:CC:=(CC.seq (CC.region [(wB 18 (AA (tm 0))),(wB 19 (AW 27 [(tm 18)])),(wB 17 (AA (tm 19))),(wB 20 (AH 0 (tm 17))),(wB 21 (AH 1 (tm 17))),(wB 22 (AH 2 (tm 17))),(wB 5 (AA (tm 20))),(wB 6 (AA (tm 21))),(wB 7 (AA (tm 22)))]) cn)
abbrev xC:CC:=(CC.seq (CC.region [(wB 2 (AA (O.c V.l0))),(wB 3 (AA (oN 0))),(wB 4 (AA (O.c (V.b Bool.false))))]) eL)
theorem yK:AY Try.prog 28=⟨88,xC,[(Rs.tmp (AV 2)),(Rs.tmp (AV 3)),(Rs.tmp (AV 4))]⟩:=by kernel_rfl
end Go.Proofs.Ytmlcddeikgechaa
set_option maxRecDepth 1000000
namespace Go.Proofs.Ytmlcddeikgechaa
open Go Go.Ev
abbrev lH:CC:=(CC.cond (tm 9) CC.skip (CC.exit 0))
abbrev qh:CC:=(CC.region [(wB 18 (AA (tm 4))),(wB 19 (AA (tm 3))),(wB 20 (AX By (tm 18) (tm 19))),(wB 21 (EP (tm 20) (O.c (V.i IntKind.u32 (Int.ofNat 65521))))),(wB 4 (AA (tm 21)))])
abbrev pB:CC:=(CC.seq (CC.region [(wB 11 (AA (tm 3))),(wB 12 (AA (tm 0))),(wB 13 (AA (tm 5))),(wB 14 (B4 (tm 12) (tm 13))),(wB 15 (Bn IntKind.u32 (tm 14))),(wB 16 (AX By (tm 11) (tm 15))),(wB 17 (EP (tm 16) (O.c (V.i IntKind.u32 (Int.ofNat 65521))))),(wB 3 (AA (tm 17)))]) qh)
abbrev sY:CC:=(CC.seq (CC.region [(wB 10 (AA (tm 8))),(wB 5 (AA (tm 10)))]) pB)
abbrev gj:CC:=(CC.block 1 sY)
abbrev gz:CC:=(CC.region [(wB 22 (AX By (tm 8) (oN 1))),(wB 8 (AA (tm 22)))])
abbrev p6:CC:=(CC.seq gj gz)
abbrev nN:CC:=(CC.seq lH p6)
abbrev qS:CC:=(CC.seq (CC.region [(wB 9 (AX Cr (tm 8) (tm 7)))]) nN)
abbrev qt:CC:=(CC.loop qS)
abbrev mO:CC:=(CC.block 0 qt)
abbrev cG:CC:=(CC.seq (CC.region [(wB 6 (AA (tm 0))),(wB 7 (BH (tm 6))),(wB 8 (AA (oN 0)))]) mO)
abbrev Z4:CC:=(CC.seq (CC.region [(wB 23 (AA (tm 4))),(wB 24 (Ca NR (tm 23) (O.c (V.i IntKind.u64 (Int.ofNat 16))))),(wB 25 (AA (tm 3))),(wB 26 (AX Vk (tm 24) (tm 25))),(wB 2 (AA (tm 26)))]) CC.ret)
abbrev bG:CC:=(CC.seq cG Z4)
abbrev fW:CC:=(CC.seq (CC.region [(wB 3 (AA (O.c (V.i IntKind.u32 (Int.ofNat 1))))),(wB 4 (AA (O.c (V.i IntKind.u32 (Int.ofNat 0)))))]) bG)
abbrev xe:CC:=(CC.seq (CC.region [(wB 2 (AA (O.c (V.i IntKind.u32 (Int.ofNat 0)))))]) fW)
theorem xf:AY Try.prog 47=⟨27,xe,[(Rs.tmp (AV 2))]⟩:=by kernel_rfl
abbrev pN:CC:=(CC.seq (CC.region [(wB 6 (AA (tm 3))),(wB 7 (Ca Jp (tm 6) (O.c (V.i IntKind.u64 (Int.ofNat 24))))),(wB 8 (Bn IntKind.u8 (tm 7))),(wB 9 (AA (tm 3))),(wB 10 (Ca Jp (tm 9) (O.c (V.i IntKind.u64 (Int.ofNat 16))))),(wB 11 (Bn IntKind.u8 (tm 10))),(wB 12 (AA (tm 3))),(wB 13 (Ca Jp (tm 12) (O.c (V.i IntKind.u64 (Int.ofNat 8))))),(wB 14 (Bn IntKind.u8 (tm 13))),(wB 15 (AA (tm 3))),(wB 16 (Bn IntKind.u8 (tm 15))),(wB 17 (A9 5 4 [(V.i IntKind.u8 (Int.ofNat 0)),(V.i IntKind.u8 (Int.ofNat 0)),(V.i IntKind.u8 (Int.ofNat 0)),(V.i IntKind.u8 (Int.ofNat 0))] [(Pt.mk 0 1 (tm 8)),(Pt.mk 1 1 (tm 11)),(Pt.mk 2 1 (tm 14)),(Pt.mk 3 1 (tm 16))])),(wB 18 (Dl (tm 17))),(wB 2 (AA (tm 18)))]) CC.ret)
abbrev pJ:CC:=(CC.seq (CC.region [(wB 4 (AA (tm 0))),(wB 5 (AW 47 [(tm 4)])),(wB 3 (AA (tm 5)))]) pN)
abbrev yR:CC:=(CC.seq (CC.region [(wB 2 (AA (O.c (V.s 0 0))))]) pJ)
theorem xB:AY Try.prog 35=⟨19,yR,[(Rs.tmp (AV 2))]⟩:=by kernel_rfl
abbrev im:CC:=(CC.seq (CC.region [(wB 3 (AA (tm 0))),(wB 4 (BH (tm 3))),(wB 5 (AW 18 [(tm 4)])),(wB 6 (AA (tm 0))),(wB 7 (AW 35 [(tm 6)])),(wB 8 (BE (tm 5) (tm 7))),(wB 9 (AA (tm 0))),(wB 10 (BE (tm 8) (tm 9))),(wB 2 (AA (tm 10)))]) CC.ret)
abbrev xK:CC:=(CC.seq (CC.region [(wB 2 (AA (O.c (V.s 0 0))))]) im)
theorem xm:AY Try.prog 19=⟨11,xK,[(Rs.tmp (AV 2))]⟩:=by kernel_rfl
abbrev oB:CC:=(CC.seq (CC.region [(wB 2 (AA (O.c (V.s 0 0)))),(wB 3 (AA (oN 0))),(wB 4 (AA (oN 12)))]) CC.ret)
abbrev rM:CC:=(CC.seq (CC.region [(wB 2 (AA (O.c (V.s 0 0)))),(wB 3 (AA (oN 0))),(wB 4 (AA (oN 13)))]) CC.ret)
abbrev oy:CC:=(CC.cond (tm 20) oB rM)
abbrev gg:CC:=(CC.seq (CC.region [(wB 21 (AX CY (tm 17) (oN 12))),(wB 20 (AA (tm 21)))]) oy)
abbrev jh:CC:=(CC.cond (tm 18) CC.skip gg)
abbrev jC:CC:=(CC.seq (CC.region [(wB 19 (AX CY (tm 17) (oN 0))),(wB 18 (AA (tm 19)))]) jh)
abbrev iG:CC:=(CC.block 0 jC)
abbrev hU:CC:=(CC.seq (CC.region [(wB 17 (AA (tm 7)))]) iG)
abbrev tI:CC:=(CC.seq (CC.region [(wB 2 (AA (O.c (V.s 0 0)))),(wB 3 (AA (oN 0))),(wB 4 (AA (oN 12)))]) CC.ret)
abbrev kg:CC:=(CC.cond (tm 29) tI CC.skip)
abbrev fT:CC:=(CC.seq (CC.region [(wB 25 (AA (tm 5))),(wB 26 (AA (tm 8))),(wB 27 (BH (tm 26))),(wB 28 (AX JD (tm 27) (oN 4))),(wB 29 (AX C6 (tm 25) (tm 28)))]) kg)
abbrev Yo:CC:=(CC.seq (CC.region [(wB 2 (AA (O.c (V.s 0 0)))),(wB 3 (AA (oN 0))),(wB 4 (AA (oN 13)))]) CC.ret)
abbrev fx:CC:=(CC.cond (tm 39) Yo CC.skip)
abbrev cq:CC:=(CC.seq (CC.region [(wB 36 (AA (tm 9))),(wB 37 (AA (tm 10))),(wB 38 (AW 35 [(tm 37)])),(wB 39 (CM (fun a b c d=>!Fw a b c d) (tm 36) (tm 38)))]) fx)
abbrev eK:CC:=(CC.seq (CC.region [(wB 40 (AA (tm 10))),(wB 41 (AA (tm 6))),(wB 42 (AX By (tm 41) (oN 4))),(wB 43 (AA (tm 5))),(wB 44 (AX By (tm 42) (tm 43))),(wB 2 (AA (tm 40))),(wB 3 (AA (tm 44))),(wB 4 (AA (oN 0)))]) CC.ret)
abbrev fH:CC:=(CC.seq cq eK)
abbrev Z5:CC:=(CC.seq (CC.Bg [(uB 30 (AA (tm 8))),(uB 31 (Az (tm 30) none (some (oN 4)))),(uB 32 (AA (tm 8))),(uB 33 (AA (tm 5))),(uB 34 (AX By (oN 4) (tm 33))),(uB 35 (Az (tm 32) (some (oN 4)) (some (tm 34)))),(uB 9 (AA (tm 31))),(uB 10 (AA (tm 35)))] none) fH)
abbrev Y6:CC:=(CC.seq fT Z5)
abbrev fa:CC:=(CC.seq (CC.region [(wB 22 (AA (tm 0))),(wB 23 (AA (tm 6))),(wB 24 (Az (tm 22) (some (tm 23)) none)),(wB 8 (AA (tm 24)))]) Y6)
abbrev Zx:CC:=(CC.seq hU fa)
abbrev dY:CC:=(CC.seq (CC.region [(wB 12 (AA (tm 0))),(wB 13 (AW 41 [(tm 12)])),(wB 11 (AA (tm 13))),(wB 14 (AH 0 (tm 11))),(wB 15 (AH 1 (tm 11))),(wB 16 (AH 2 (tm 11))),(wB 5 (AA (tm 14))),(wB 6 (AA (tm 15))),(wB 7 (AA (tm 16)))]) Zx)
abbrev yG:CC:=(CC.seq (CC.region [(wB 2 (AA (O.c (V.s 0 0)))),(wB 3 (AA (oN 0))),(wB 4 (AA (oN 0)))]) dY)
theorem xg:AY Try.prog 24=⟨45,yG,[(Rs.tmp (AV 2)),(Rs.tmp (AV 3)),(Rs.tmp (AV 4))]⟩:=by kernel_rfl
abbrev sL:CC:=(CC.cond (tm 9) CC.skip (CC.exit 0))
abbrev kJ:CC:=(CC.seq (CC.region [(wB 6 (AA (tm 5))),(wB 7 (AA (tm 0))),(wB 8 (BH (tm 7))),(wB 9 (AX Cr (tm 6) (tm 8)))]) sL)
abbrev hJ:CC:=(CC.region [(wB 19 (AA (tm 4))),(wB 20 (AA (tm 3))),(wB 21 (AX By (tm 19) (tm 20))),(wB 22 (EP (tm 21) (O.c (V.i IntKind.u32 (Int.ofNat 65521))))),(wB 4 (AA (tm 22)))])
abbrev oz:CC:=(CC.seq (CC.region [(wB 12 (AA (tm 3))),(wB 13 (AA (tm 0))),(wB 14 (AA (tm 5))),(wB 15 (B4 (tm 13) (tm 14))),(wB 16 (Bn IntKind.u32 (tm 15))),(wB 17 (AX By (tm 12) (tm 16))),(wB 18 (EP (tm 17) (O.c (V.i IntKind.u32 (Int.ofNat 65521))))),(wB 3 (AA (tm 18)))]) hJ)
abbrev qF:CC:=(CC.block 1 oz)
abbrev rI:CC:=(CC.region [(wB 10 (AA (tm 5))),(wB 11 (AX By (tm 10) (oN 1))),(wB 5 (AA (tm 11)))])
abbrev nr:CC:=(CC.seq qF rI)
abbrev gm:CC:=(CC.seq kJ nr)
abbrev sE:CC:=(CC.loop gm)
abbrev mq:CC:=(CC.block 0 sE)
abbrev ia:CC:=(CC.seq (CC.region [(wB 5 (AA (oN 0)))]) mq)
abbrev gH:CC:=(CC.seq (CC.region [(wB 23 (AA (tm 4))),(wB 24 (AX Ul (tm 23) (O.c (V.i IntKind.u32 (Int.ofNat 65536))))),(wB 25 (AA (tm 3))),(wB 26 (AX By (tm 24) (tm 25))),(wB 2 (AA (tm 26)))]) CC.ret)
abbrev bN:CC:=(CC.seq ia gH)
abbrev eI:CC:=(CC.seq (CC.region [(wB 3 (AA (O.c (V.i IntKind.u32 (Int.ofNat 1))))),(wB 4 (AA (O.c (V.i IntKind.u32 (Int.ofNat 0)))))]) bN)
abbrev xL:CC:=(CC.seq (CC.region [(wB 2 (AA (O.c (V.i IntKind.u32 (Int.ofNat 0)))))]) eI)
theorem wh:AY Try.prog 39=⟨27,xL,[(Rs.tmp (AV 2))]⟩:=by kernel_rfl
abbrev rZ:CC:=(CC.seq (CC.region [(wB 3 (AA (tm 0))),(wB 4 (Ca Jp (tm 3) (O.c (V.i IntKind.u64 (Int.ofNat 24))))),(wB 5 (Bn IntKind.u8 (tm 4))),(wB 6 (AA (tm 0))),(wB 7 (Ca Jp (tm 6) (O.c (V.i IntKind.u64 (Int.ofNat 16))))),(wB 8 (Bn IntKind.u8 (tm 7))),(wB 9 (AA (tm 0))),(wB 10 (Ca Jp (tm 9) (O.c (V.i IntKind.u64 (Int.ofNat 8))))),(wB 11 (Bn IntKind.u8 (tm 10))),(wB 12 (AA (tm 0))),(wB 13 (Bn IntKind.u8 (tm 12))),(wB 14 (A9 5 4 [(V.i IntKind.u8 (Int.ofNat 0)),(V.i IntKind.u8 (Int.ofNat 0)),(V.i IntKind.u8 (Int.ofNat 0)),(V.i IntKind.u8 (Int.ofNat 0))] [(Pt.mk 0 1 (tm 5)),(Pt.mk 1 1 (tm 8)),(Pt.mk 2 1 (tm 11)),(Pt.mk 3 1 (tm 13))])),(wB 15 (Dl (tm 14))),(wB 2 (AA (tm 15)))]) CC.ret)
abbrev yP:CC:=(CC.seq (CC.region [(wB 2 (AA (O.c (V.s 0 0))))]) rZ)
theorem wW:AY Try.prog 38=⟨16,yP,[(Rs.tmp (AV 2))]⟩:=by kernel_rfl
abbrev iS:CC:=(CC.seq (CC.region [(wB 3 (AA (tm 0))),(wB 4 (BH (tm 3))),(wB 5 (AW 22 [(tm 4)])),(wB 6 (AA (tm 0))),(wB 7 (AW 39 [(tm 6)])),(wB 8 (AW 38 [(tm 7)])),(wB 9 (BE (tm 5) (tm 8))),(wB 10 (AA (tm 0))),(wB 11 (BE (tm 9) (tm 10))),(wB 2 (AA (tm 11)))]) CC.ret)
abbrev xz:CC:=(CC.seq (CC.region [(wB 2 (AA (O.c (V.s 0 0))))]) iS)
theorem xT:AY Try.prog 21=⟨12,xz,[(Rs.tmp (AV 2))]⟩:=by kernel_rfl
abbrev oH:CC:=(CC.seq (CC.region [(wB 2 (AA (O.c (V.s 0 0)))),(wB 3 (AA (oN 0))),(wB 4 (AA (oN 12)))]) CC.ret)
abbrev r9:CC:=(CC.cond (tm 16) oH CC.skip)
abbrev lK:CC:=(CC.seq (CC.region [(wB 15 (AA (tm 7))),(wB 16 (AX CY (tm 15) (oN 12)))]) r9)
abbrev jX:CC:=(CC.seq (CC.region [(wB 2 (AA (O.c (V.s 0 0)))),(wB 3 (AA (oN 0))),(wB 4 (AA (oN 13)))]) CC.ret)
abbrev gS:CC:=(CC.cond (tm 18) jX CC.skip)
abbrev nG:CC:=(CC.seq (CC.region [(wB 17 (AA (tm 7))),(wB 18 (AX FI (tm 17) (oN 0)))]) gS)
abbrev kp:CC:=(CC.seq (CC.region [(wB 2 (AA (O.c (V.s 0 0)))),(wB 3 (AA (oN 0))),(wB 4 (AA (oN 12)))]) CC.ret)
abbrev mZ:CC:=(CC.cond (tm 32) kp CC.skip)
abbrev mL:CC:=(CC.seq (CC.region [(wB 19 (AA (tm 0))),(wB 20 (BH (tm 19))),(wB 21 (AA (tm 6))),(wB 22 (AX JD (tm 20) (tm 21))),(wB 23 (AX Cr (tm 22) (oN 4))),(wB 24 (AA (tm 23))),(wG 24 false 25 (AA (tm 5))),(wG 24 false 26 (AA (tm 0))),(wG 24 false 27 (BH (tm 26))),(wG 24 false 28 (AA (tm 6))),(wG 24 false 29 (AX JD (tm 27) (tm 28))),(wG 24 false 30 (AX JD (tm 29) (oN 4))),(wG 24 false 31 (AX C6 (tm 25) (tm 30))),(wB 32 (Ac (tm 24) (O.c (V.b Bool.true)) (tm 31)))]) mZ)
abbrev mi:CC:=(CC.seq (CC.region [(wB 2 (AA (O.c (V.s 0 0)))),(wB 3 (AA (oN 0))),(wB 4 (AA (oN 13)))]) CC.ret)
abbrev eB:CC:=(CC.cond (tm 49) mi CC.skip)
abbrev aq:CC:=(CC.seq (CC.Bg [(uB 41 (AA (tm 8))),(wB 42 (AW 39 [(tm 41)])),(wB 43 (AW 38 [(tm 42)])),(uB 44 (AA (tm 0))),(uB 45 (AA (tm 6))),(uB 46 (AA (tm 6))),(uB 47 (AX By (tm 46) (oN 4))),(uB 48 (Az (tm 44) (some (tm 45)) (some (tm 47)))),(uB 49 (CM (fun a b c d=>!Fw a b c d) (tm 43) (tm 48)))] none) eB)
abbrev fM:CC:=(CC.seq (CC.region [(wB 50 (AA (tm 8))),(wB 51 (AA (tm 6))),(wB 52 (AX By (tm 51) (oN 4))),(wB 53 (AA (tm 5))),(wB 54 (AX By (tm 52) (tm 53))),(wB 2 (AA (tm 50))),(wB 3 (AA (tm 54))),(wB 4 (AA (oN 0)))]) CC.ret)
abbrev Yy:CC:=(CC.seq aq fM)
abbrev dP:CC:=(CC.seq (CC.region [(wB 33 (AA (tm 0))),(wB 34 (AA (tm 6))),(wB 35 (AX By (tm 34) (oN 4))),(wB 36 (AA (tm 6))),(wB 37 (AX By (tm 36) (oN 4))),(wB 38 (AA (tm 5))),(wB 39 (AX By (tm 37) (tm 38))),(wB 40 (Az (tm 33) (some (tm 35)) (some (tm 39)))),(wB 8 (AA (tm 40)))]) Yy)
abbrev ZO:CC:=(CC.seq mL dP)
abbrev ZW:CC:=(CC.seq nG ZO)
abbrev dA:CC:=(CC.seq lK ZW)
abbrev Y4:CC:=(CC.seq (CC.region [(wB 10 (AA (tm 0))),(wB 11 (AW 27 [(tm 10)])),(wB 9 (AA (tm 11))),(wB 12 (AH 0 (tm 9))),(wB 13 (AH 1 (tm 9))),(wB 14 (AH 2 (tm 9))),(wB 5 (AA (tm 12))),(wB 6 (AA (tm 13))),(wB 7 (AA (tm 14)))]) dA)
abbrev yh:CC:=(CC.seq (CC.region [(wB 2 (AA (O.c (V.s 0 0)))),(wB 3 (AA (oN 0))),(wB 4 (AA (oN 0)))]) Y4)
theorem w8:AY Try.prog 26=⟨55,yh,[(Rs.tmp (AV 2)),(Rs.tmp (AV 3)),(Rs.tmp (AV 4))]⟩:=by kernel_rfl
end Go.Proofs.Ytmlcddeikgechaa
set_option maxRecDepth 100000
set_option maxHeartbeats 8000000
namespace Go.Proofs.Ytmlcddeikgechaa
open Go Go.Ev
theorem ba {h:H} {l:List UInt8} (hl:l.length<=1000000):BZ Try.prog 47 [sv l] h fun y h'=>y=.i .u32 (Er l:Int)/\h'=h:=by
 refine BP xf (by intro hb;cases hb) (by simp) (by simp) fun Q hQ=>?_
 simp only[Ay,Nat.reduceAdd]
 repeat' (first
  |refine St.h ?_
  |simp(disch:=first|omega|(simp only[AJ];omega))only[AK,↓AB,↓reduceIte,seval]
  |(with_reducible (first|apply AD|apply AE))<;>(intro hc;(try simp only[AR]at hc);(try simp only[hc]);(try simp only[AQ]at hc);try omega))
 refine Ok.lp (fun m t g=>∃ i:Nat,i<=l.length/\m=l.length-i/\g=h/\get 0 t=sv l/\get 3 t=.i .u32 ((N9 (l.take i)).1:Int)/\get 4 t=.i .u32 ((N9 (l.take i)).2:Int)/\get 7 t=.i .i64 (l.length:Int)/\get 8 t=.i .i64 (i:Int)) l.length ?_ ?_
 ·simp(disch:=first|omega|(simp only[AJ];omega))only[AK,↓AB,↓reduceIte,seval]
  exact⟨0,by omega,rfl,trivial,trivial,rfl,rfl,trivial,rfl⟩
 rintro I hI m t g ⟨i,hi,rfl,rfl,f0,f3,f4,f7,f8⟩
 have hci:=(l.getD i 0).toNat_lt
 have⟨b1,b2⟩:=PE (l.take i)
 repeat' (first
  |refine St.h ?_
  |simp(disch:=first|omega|(simp only[AJ];omega))only[AK,↓AB,↓reduceIte,seval,f0,f3,f4,f7,f8]
  |(with_reducible (first|apply AD|apply AE))<;>(intro hc;(try simp only[AR]at hc);(try simp only[hc]);(try simp only[AQ]at hc);try omega))
 ·have e:=OV (l:=l) (i:=i) (by omega)
  refine Bq hI (l.length-(i+1)) (by omega) ⟨i+1,by omega,rfl,rfl,?_,?_,?_,?_,?_⟩
  ·simp(disch:=first|omega|(simp only[AJ];omega))only[AK,↓AB,↓reduceIte,seval,f0]
  ·simp(disch:=first|omega|(simp only[AJ];omega))only[AK,↓AB,↓reduceIte,seval,e,Fk];rfl
  ·simp(disch:=first|omega|(simp only[AJ];omega))only[AK,↓AB,↓reduceIte,seval,e,Fk];rfl
  ·simp(disch:=first|omega|(simp only[AJ];omega))only[AK,↓AB,↓reduceIte,seval,f7]
  ·simp(disch:=first|omega|(simp only[AJ];omega))only[AK,↓AB,↓reduceIte,seval];rfl
 ·obtain rfl:i=l.length:=by omega
  rw[List.take_length]at*
  have e:(((N9 l).2:Int)*65536).toNat|||(N9 l).1=Er l:=by
   rw[show(((N9 l).2:Int)*65536).toNat=2 ^ 16*(N9 l).2 by omega,<-Nat.two_pow_add_eq_or_of_lt (by omega)]
   unfold Er;omega
  subst hQ
  simp(disch:=first|omega|(simp only[AJ];omega))only[AK,↓AB,↓reduceIte,seval,e]
theorem QB {h:H} {l:List UInt8} (hl:l.length<=1000000):BZ Try.prog 39 [sv l] h fun y h'=>y=.i .u32 (Er l:Int)/\h'=h:=by
 refine BP wh (by intro hb;cases hb) (by simp) (by simp) fun Q hQ=>?_
 simp only[Ay,Nat.reduceAdd]
 repeat' (first
  |refine St.h ?_
  |simp(disch:=first|omega|(simp only[AJ];omega))only[AK,↓AB,↓reduceIte,seval]
  |(with_reducible (first|apply AD|apply AE))<;>(intro hc;(try simp only[AR]at hc);(try simp only[hc]);(try simp only[AQ]at hc);try omega))
 refine Ok.lp (fun m t g=>∃ i:Nat,i<=l.length/\m=l.length-i/\g=h/\get 0 t=sv l/\get 3 t=.i .u32 ((N9 (l.take i)).1:Int)/\get 4 t=.i .u32 ((N9 (l.take i)).2:Int)/\get 5 t=.i .i64 (i:Int)) l.length ?_ ?_
 ·simp(disch:=first|omega|(simp only[AJ];omega))only[AK,↓AB,↓reduceIte,seval]
  exact⟨0,by omega,rfl,trivial,trivial,rfl,rfl,rfl⟩
 rintro I hI m t g ⟨i,hi,rfl,rfl,f0,f3,f4,f8⟩
 have hci:=(l.getD i 0).toNat_lt
 have⟨b1,b2⟩:=PE (l.take i)
 repeat' (first
  |refine St.h ?_
  |simp(disch:=first|omega|(simp only[AJ];omega))only[AK,↓AB,↓reduceIte,seval,f0,f3,f4,f8]
  |(with_reducible (first|apply AD|apply AE))<;>(intro hc;(try simp only[AR]at hc);(try simp only[hc]);(try simp only[AQ]at hc);try omega))
 ·have e:=OV (l:=l) (i:=i) (by omega)
  refine Bq hI (l.length-(i+1)) (by omega) ⟨i+1,by omega,rfl,rfl,?_,?_,?_,?_⟩
  ·simp(disch:=first|omega|(simp only[AJ];omega))only[AK,↓AB,↓reduceIte,seval,f0]
  ·simp(disch:=first|omega|(simp only[AJ];omega))only[AK,↓AB,↓reduceIte,seval,e,Fk];rfl
  ·simp(disch:=first|omega|(simp only[AJ];omega))only[AK,↓AB,↓reduceIte,seval,e,Fk];rfl
  ·simp(disch:=first|omega|(simp only[AJ];omega))only[AK,↓AB,↓reduceIte,seval];rfl
 ·obtain rfl:i=l.length:=by omega
  rw[List.take_length]at*
  subst hQ
  refine⟨?_,rfl⟩
  unfold Er;rfl
theorem Jg {n:Nat} (h:n<4294967296):([V.i .u8 ((n/16777216:Nat):Int),V.i .u8 ((n/65536%256:Nat):Int),V.i .u8 ((n/256%256:Nat):Int),V.i .u8 ((n%256:Nat):Int)]:List V)=(C3 n).map bv:=by
 have e1:n/16777216=n/16777216%256:=by omega
 rw[e1]
 simp only[Ie]
 unfold C3
 simp[ZD]
theorem Qo {h:H} {n:Nat} (hn:n<4294967296) (hf:B.val h.floor<=B.val h.next):BZ Try.prog 38 [.i .u32 (n:Int)] h fun y h'=>y=sv (C3 n)/\AZ AM h h':=by
 refine BP wW (by intro hb;cases hb) (by simp) (by simp) fun Q hQ=>?_
 simp only[Ay,Nat.reduceAdd]
 repeat' (first
  |refine St.h ?_
  |simp(disch:=first|omega|(simp only[AJ];omega))only[AK,↓AB,↓reduceIte,seval,IY]
  |(with_reducible (first|apply AD|apply AE))<;>(intro hc;(try simp only[AR]at hc);(try simp only[hc]);(try simp only[AQ]at hc);try omega))
 refine AL.str (bs:=C3 n) (Jg hn) (by simp[C3]) rfl rfl (by simp[C3]) hf fun h' u s1=>?_
 repeat' (first
  |refine St.h ?_
  |simp(disch:=first|omega|(simp only[AJ];omega))only[AK,↓AB,↓reduceIte,seval]
  |(with_reducible (first|apply AD|apply AE))<;>(intro hc;(try simp only[AR]at hc);(try simp only[hc]);(try simp only[AQ]at hc);try omega))
 subst hQ
 exact⟨rfl,s1⟩
theorem Jl {h:H} {l:List UInt8} (hl:l.length<=1000000) (hf:B.val h.floor<=B.val h.next):BZ Try.prog 35 [sv l] h fun y h'=>y=sv (C3 (Er l))/\AZ AM h h':=by
 refine BP xB (by intro hb;cases hb) (by simp) (by simp) fun Q hQ=>?_
 simp only[Ay,Nat.reduceAdd]
 have hn:=NG l
 repeat' (first
  |refine St.h ?_
  |simp(disch:=first|omega|(simp only[AJ];omega))only[AK,↓AB,↓reduceIte,seval]
  |(with_reducible (first|apply AD|apply AE))<;>(intro hc;(try simp only[AR]at hc);(try simp only[hc]);(try simp only[AQ]at hc);try omega))
 refine CL.pure (ba hl) ?_
 repeat' (first
  |refine St.h ?_
  |simp(disch:=first|omega|(simp only[AJ];omega))only[AK,↓AB,↓reduceIte,seval,IY]
  |(with_reducible (first|apply AD|apply AE))<;>(intro hc;(try simp only[AR]at hc);(try simp only[hc]);(try simp only[AQ]at hc);try omega))
 refine AL.str (bs:=C3 (Er l)) (Jg hn) (by simp[C3]) rfl rfl (by simp[C3]) hf fun h' u s1=>?_
 repeat' (first
  |refine St.h ?_
  |simp(disch:=first|omega|(simp only[AJ];omega))only[AK,↓AB,↓reduceIte,seval]
  |(with_reducible (first|apply AD|apply AE))<;>(intro hc;(try simp only[AR]at hc);(try simp only[hc]);(try simp only[AQ]at hc);try omega))
 subst hQ
 exact⟨rfl,s1⟩
theorem J9 {h:H} {l:List UInt8} (hl:l.length<=1000000) (hf:B.val h.floor<=B.val h.next):BZ Try.prog 19 [sv l] h fun y h'=>y=sv (B7 l)/\AZ AM h h':=by
 refine BP xm (by intro hb;cases hb) (by simp) (by simp) fun Q hQ=>?_
 simp only[Ay,Nat.reduceAdd]
 have h9:=BO (n:=l.length) (by omega)
 have h4:=JS (Er l)
 repeat' (first
  |refine St.h ?_
  |simp(disch:=first|omega|(simp only[AJ];omega))only[AK,↓AB,↓reduceIte,seval]
  |(with_reducible (first|apply AD|apply AE))<;>(intro hc;(try simp only[AR]at hc);(try simp only[hc]);(try simp only[AQ]at hc);try omega))
 refine CL.stay (Ed (by omega) hf) fun h1 s1=>?_
 repeat' (first
  |refine St.h ?_
  |simp(disch:=first|omega|(simp only[AJ];omega))only[AK,↓AB,↓reduceIte,seval]
  |(with_reducible (first|apply AD|apply AE))<;>(intro hc;(try simp only[AR]at hc);(try simp only[hc]);(try simp only[AQ]at hc);try omega))
 refine CL.stay (Jl hl (s1.fl hf)) fun h2 s2=>?_
 repeat' (first
  |refine St.h ?_
  |simp(disch:=first|omega|(simp only[AJ];omega))only[AK,↓AB,↓reduceIte,seval]
  |(with_reducible (first|apply AD|apply AE))<;>(intro hc;(try simp only[AR]at hc);(try simp only[hc]);(try simp only[AQ]at hc);try omega))
 subst hQ
 exact⟨rfl,s1.trans s2⟩
theorem NV {h:H} {l:List UInt8} (hl:l.length<=1000000) (hf:B.val h.floor<=B.val h.next):BZ Try.prog 21 [sv l] h fun y h'=>y=sv (B7 l)/\AZ AM h h':=by
 refine BP xT (by intro hb;cases hb) (by simp) (by simp) fun Q hQ=>?_
 simp only[Ay,Nat.reduceAdd]
 have h9:=BO (n:=l.length) (by omega)
 have h4:=JS (Er l)
 repeat' (first
  |refine St.h ?_
  |simp(disch:=first|omega|(simp only[AJ];omega))only[AK,↓AB,↓reduceIte,seval]
  |(with_reducible (first|apply AD|apply AE))<;>(intro hc;(try simp only[AR]at hc);(try simp only[hc]);(try simp only[AQ]at hc);try omega))
 refine CL.stay (Et (by omega) hf) fun h1 s1=>?_
 repeat' (first
  |refine St.h ?_
  |simp(disch:=first|omega|(simp only[AJ];omega))only[AK,↓AB,↓reduceIte,seval]
  |(with_reducible (first|apply AD|apply AE))<;>(intro hc;(try simp only[AR]at hc);(try simp only[hc]);(try simp only[AQ]at hc);try omega))
 refine CL.pure (QB hl) ?_
 repeat' (first
  |refine St.h ?_
  |simp(disch:=first|omega|(simp only[AJ];omega))only[AK,↓AB,↓reduceIte,seval]
  |(with_reducible (first|apply AD|apply AE))<;>(intro hc;(try simp only[AR]at hc);(try simp only[hc]);(try simp only[AQ]at hc);try omega))
 refine CL.stay (Qo (NG l) (s1.fl hf)) fun h2 s2=>?_
 repeat' (first
  |refine St.h ?_
  |simp(disch:=first|omega|(simp only[AJ];omega))only[AK,↓AB,↓reduceIte,seval]
  |(with_reducible (first|apply AD|apply AE))<;>(intro hc;(try simp only[AR]at hc);(try simp only[hc]);(try simp only[AQ]at hc);try omega))
 subst hQ
 exact⟨rfl,s1.trans s2⟩
/--what Open tells,as a value -/
def opn (l:List UInt8):V:=.tu [sv (CV l).1,.i .i64 (CV l).2.1,.i .i64 (CV l).2.2]
theorem Mk {h:H} {l:List UInt8} (hl:l.length<=1000000) (hf:B.val h.floor<=B.val h.next):BZ Try.prog 24 [sv l] h fun y h'=>y=opn l/\AZ AM h h':=by
 refine BP xg (by intro hb;cases hb) (by simp) (by simp) fun Q hQ=>?_
 simp only[Ay,Nat.reduceAdd]
 repeat' (first
  |refine St.h ?_
  |simp(disch:=first|omega|(simp only[AJ];omega))only[AK,↓AB,↓reduceIte,seval]
  |(with_reducible (first|apply AD|apply AE))<;>(intro hc;(try simp only[AR]at hc);(try simp only[hc]);(try simp only[AQ]at hc);try omega))
 refine CL.pure (FT hl) ?_
 rcases Bi l with(hc|hc)|⟨n,k,hc,h1,h2,h3,h4⟩
 ·have e:CV l=([],0,13):=by unfold CV;rw[hc];rfl
  rw[hc];unfold Hf
  repeat' (first
   |refine St.h ?_
   |simp(disch:=first|omega|(simp only[AJ];omega))only[AK,↓AB,↓reduceIte,seval]
   |(with_reducible (first|apply AD|apply AE))<;>(intro hc;(try simp only[AR]at hc);(try simp only[hc]);(try simp only[AQ]at hc);try omega))
  subst hQ
  exact⟨by unfold opn;rw[e],AZ.refl _ _⟩
 ·have e:CV l=([],0,12):=by unfold CV;rw[hc];rfl
  rw[hc];unfold Hf
  repeat' (first
   |refine St.h ?_
   |simp(disch:=first|omega|(simp only[AJ];omega))only[AK,↓AB,↓reduceIte,seval]
   |(with_reducible (first|apply AD|apply AE))<;>(intro hc;(try simp only[AR]at hc);(try simp only[hc]);(try simp only[AQ]at hc);try omega))
  subst hQ
  exact⟨by unfold opn;rw[e],AZ.refl _ _⟩
 have e:=GB hc
 rw[hc];unfold Hf
 have hd:(l.drop k).length=l.length-k:=List.length_drop
 repeat' (first
  |refine St.h ?_
  |simp(disch:=first|omega|(simp only[AJ];omega))only[AK,↓AB,↓reduceIte,seval,Int.toNat_natCast]
  |(with_reducible (first|apply AD|apply AE))<;>(intro hc;(try simp only[AR]at hc);(try simp only[hc]);(try simp only[AQ]at hc);try omega))
 ·rw[if_pos (by omega)]at e
  subst hQ
  exact⟨by unfold opn;rw[e],AZ.refl _ _⟩
 rw[if_neg (by omega)]at e
 have ht:((l.drop k).take (4+(n:Int)).toNat).drop 4=(l.drop (k+4)).take n:=by
  rw[show(4+(n:Int)).toNat=4+n by omega,List.drop_take,List.drop_drop]
  congr 1;omega
 rw[ht]
 have htl:((l.drop (k+4)).take n).length<=1000000:=by rw[List.length_take,List.length_drop];omega
 refine CL.stay (Jl htl hf) fun h1' s1=>?_
 repeat' (first
  |refine St.h ?_
  |simp(disch:=first|omega|(simp only[AJ];omega))only[AK,↓AB,↓reduceIte,seval]
  |(with_reducible (first|apply AD|apply AE))<;>(intro hc;(try simp only[AR]at hc);(try simp only[hc]);(try simp only[AQ]at hc);try omega))
 all_goals subst hQ
 ·rw[if_pos (fun e'=>hc e'.symm)]at e
  exact⟨by unfold opn;rw[e],s1⟩
 ·rw[if_neg (by intro e';exact e' hc.symm)]at e
  exact⟨by unfold opn;rw[e],s1⟩
theorem Sj {h:H} {l:List UInt8} (hl:l.length<=1000000) (hf:B.val h.floor<=B.val h.next):BZ Try.prog 26 [sv l] h fun y h'=>y=opn l/\AZ AM h h':=by
 refine BP w8 (by intro hb;cases hb) (by simp) (by simp) fun Q hQ=>?_
 simp only[Ay,Nat.reduceAdd]
 repeat' (first
  |refine St.h ?_
  |simp(disch:=first|omega|(simp only[AJ];omega))only[AK,↓AB,↓reduceIte,seval]
  |(with_reducible (first|apply AD|apply AE))<;>(intro hc;(try simp only[AR]at hc);(try simp only[hc]);(try simp only[AQ]at hc);try omega))
 refine CL.pure (Fh hl) ?_
 rcases Bi l with(hc|hc)|⟨n,k,hc,h1,h2,h3,h4⟩
 ·have e:CV l=([],0,13):=by unfold CV;rw[hc];rfl
  rw[hc];unfold Hf
  repeat' (first
   |refine St.h ?_
   |simp(disch:=first|omega|(simp only[AJ];omega))only[AK,↓AB,↓reduceIte,seval]
   |(with_reducible (first|apply AD|apply AE))<;>(intro hc;(try simp only[AR]at hc);(try simp only[hc]);(try simp only[AQ]at hc);try omega))
  subst hQ
  exact⟨by unfold opn;rw[e],AZ.refl _ _⟩
 ·have e:CV l=([],0,12):=by unfold CV;rw[hc];rfl
  rw[hc];unfold Hf
  repeat' (first
   |refine St.h ?_
   |simp(disch:=first|omega|(simp only[AJ];omega))only[AK,↓AB,↓reduceIte,seval]
   |(with_reducible (first|apply AD|apply AE))<;>(intro hc;(try simp only[AR]at hc);(try simp only[hc]);(try simp only[AQ]at hc);try omega))
  subst hQ
  exact⟨by unfold opn;rw[e],AZ.refl _ _⟩
 have e:=GB hc
 rw[hc];unfold Hf
 repeat' (first
  |refine St.h ?_
  |simp(disch:=first|omega|(simp only[AJ];omega))only[AK,↓AB,↓reduceIte,seval,Int.toNat_natCast]
  |(with_reducible (first|apply AD|apply AE))<;>(intro hc;(try simp only[AR]at hc);(try simp only[hc]);(try simp only[AQ]at hc);try omega))
 ·rw[if_pos (by omega)]at e
  subst hQ
  exact⟨by unfold opn;rw[e],AZ.refl _ _⟩
 ·rw[if_pos (by omega)]at e
  subst hQ
  exact⟨by unfold opn;rw[e],AZ.refl _ _⟩
 rw[if_neg (by omega)]at e
 have ht:(l.take ((k:Int)+4+n).toNat).drop ((k:Int)+4).toNat=(l.drop (k+4)).take n:=by
  rw[show((k:Int)+4+n).toNat=(k+4)+n by omega,show((k:Int)+4).toNat=k+4 by omega,List.drop_take]
  congr 1;omega
 have ht2:(l.take ((k:Int)+4).toNat).drop k=(l.drop k).take 4:=by
  rw[show((k:Int)+4).toNat=k+4 by omega,List.drop_take]
  congr 1;omega
 rw[ht]
 have htl:((l.drop (k+4)).take n).length<=1000000:=by rw[List.length_take,List.length_drop];omega
 refine CL.pure (QB htl) ?_
 repeat' (first
  |refine St.h ?_
  |simp(disch:=first|omega|(simp only[AJ];omega))only[AK,↓AB,↓reduceIte,seval]
  |(with_reducible (first|apply AD|apply AE))<;>(intro hc;(try simp only[AR]at hc);(try simp only[hc]);(try simp only[AQ]at hc);try omega))
 refine CL.stay (Qo (NG _) hf) fun h1 s1=>?_
 repeat' (first
  |refine St.h ?_
  |simp(disch:=first|omega|(simp only[AJ];omega))only[AK,↓AB,↓reduceIte,seval,Int.toNat_natCast,ht2]
  |(with_reducible (first|apply AD|apply AE))<;>(intro hc;(try simp only[AR]at hc);(try simp only[hc]);(try simp only[AQ]at hc);try omega))
 all_goals subst hQ
 ·rw[if_pos hc]at e
  exact⟨by unfold opn;rw[e],s1⟩
 ·rw[if_neg (by intro e';exact e' hc)]at e
  exact⟨by unfold opn;rw[e],s1⟩
end Go.Proofs.Ytmlcddeikgechaa
set_option maxRecDepth 100000
set_option maxHeartbeats 8000000
namespace Go.Proofs.Ytmlcddeikgechaa
open Go Go.Ev
theorem Uz {h:H} {v:V} {L:List Bs} (hL:Ws h v L) (hl:L.length<=10000) (hf:B.val h.floor<=B.val h.next):BZ Try.prog 33 [v] h fun y h'=>y=.b (Ho L)/\AZ AM h h':=by
 refine BP yV (by intro hb;cases hb) (by simp) (by simp) fun Q hQ=>?_
 simp only[Ay,Nat.reduceAdd]
 repeat' (first
  |refine St.h ?_
  |simp(disch:=first|omega|(simp only[AJ];omega))only[AK,↓AB,↓reduceIte,seval]
  |(with_reducible (first|apply AD|apply AE))<;>(intro hc;(try simp only[AR]at hc);(try simp only[hc]);(try simp only[AQ]at hc);try omega))
 refine Ok.lp (fun m t g=>∃ j:Nat,m=L.length-j/\j<=L.length/\AZ AM h g/\Xw L j=true/\get 0 t=v/\get 3 t=.i .i64 (j:Int)) L.length ?_ ?_
 ·simp(disch:=first|omega|(simp only[AJ];omega))only[AK,↓AB,↓reduceIte,seval]
  exact⟨0,by omega,by omega,AZ.refl _ _,rfl,trivial,rfl⟩
 rintro I hI m t g ⟨j,rfl,hj,st,hs,f0,f3⟩
 have hLg:=hL.grow st
 have hfg:=st.fl hf
 by_cases hjl:j<L.length
 case neg=>
  obtain rfl:j=L.length:=by omega
  have hr:∀ q:Bool,q=decide (L.length<=8)->q=Ho L:=fun q hq=>by unfold Ho;rw[hs,Bool.true_and];exact hq
  repeat' (first
   |refine St.h ?_
   |simp(disch:=first|omega|(simp only[AJ];omega))only[AK,↓AB,↓reduceIte,seval,f0,f3,hLg.ln]
   |(with_reducible (first|apply AD|apply AE))<;>(intro hc;(try simp only[AR]at hc);(try simp only[hc]);(try simp only[AQ]at hc);try omega))
  subst hQ
  exact⟨congrArg V.b (hr _ (by apply decide_eq_decide.2;omega)),st⟩
 have ej:((j:Int)-1).toNat=j-1:=by omega
 repeat' (first
  |refine St.h ?_
  |simp(disch:=first|omega|(simp only[AJ];omega))only[AK,↓AB,↓reduceIte,seval,f0,f3,hLg.ln,hLg.ix,hLg.la,Int.toNat_natCast]
  |(with_reducible (first|apply AD|apply AE))<;>(intro hc;(try simp only[AR]at hc);(try simp only[hc]);(try simp only[AQ]at hc);try omega))
 refine CL.stay (NT hfg) fun h1 s1=>?_
 have hL1:=hLg.grow s1
 have st1:=st.trans s1
 cases hw:Oh (L.getD j default).key (L.getD j default).del (L.getD j default).val with
 |false=>
  have hn:Ho L=false:=NH hjl (by unfold NK Pd;rw[hw];rfl)
  repeat' (first
   |refine St.h ?_
   |simp(disch:=first|omega|(simp only[AJ];omega))only[AK,↓AB,↓reduceIte,seval,f0,f3]
   |(with_reducible (first|apply AD|apply AE))<;>(intro hc;(try simp only[AR]at hc);(try simp only[hc]);(try simp only[AQ]at hc);try omega))
  subst hQ
  exact⟨by rw[hn],st1⟩
 |true=>
 by_cases h0:j=0
 ·have hu:NK L j=true:=by unfold NK Pd;rw[hw,decide_eq_true h0];rfl
  have hz:¬(0:Int)<(j:Int):=by omega
  repeat' (first
   |refine St.h ?_
   |simp(disch:=first|omega|(simp only[AJ];omega))only[AK,↓AB,↓reduceIte,seval,f0,f3,hz]
   |(with_reducible (first|apply AD|apply AE))<;>(intro hc;(try simp only[AR]at hc);(try simp only[hc]);(try simp only[AQ]at hc);try omega))
  refine Bq hI (L.length-(j+1)) (by omega) ⟨j+1,rfl,by omega,st1,by rw[II,hs,hu];rfl,?_,?_⟩
  ·simp(disch:=first|omega|(simp only[AJ];omega))only[AK,↓AB,↓reduceIte,seval,f0]
  ·simp(disch:=first|omega|(simp only[AJ];omega))only[AK,↓AB,↓reduceIte,seval];rfl
 ·have ek:(j:Int)-1=((j-1:Nat):Int):=by omega
  have hz:((0:Int)<(j:Int))=True:=eq_true (by omega)
  have hu:NK L j=Op.bytesLess (L.getD (j-1) default).key (L.getD j default).key:=by unfold NK Pd;rw[hw,decide_eq_false h0];rfl
  have hle:(Op.bytesLess (L.getD j default).key (L.getD (j-1) default).key||decide ((L.getD j default).key=(L.getD (j-1) default).key))=!Op.bytesLess (L.getD (j-1) default).key (L.getD j default).key:=by
   by_cases e:(L.getD j default).key=(L.getD (j-1) default).key
   ·rw[e,Pp];simp
   ·rw[decide_eq_false e,Bool.or_false]
    rcases OQ e with h3|h3
    ·rw[h3,QY h3];rfl
    ·rw[h3,QY h3];rfl
  cases hb:Op.bytesLess (L.getD (j-1) default).key (L.getD j default).key with
  |false=>
   rw[hb]at hu hle
   have hn:Ho L=false:=NH hjl hu
   repeat' (first
    |refine St.h ?_
    |simp(disch:=first|omega|(simp only[AJ];omega))only[AK,↓AB,↓reduceIte,seval,f0,f3,hz,hL1.ln,hL1.ix,hL1.l0,ek,hle,Int.toNat_natCast]
    |(with_reducible (first|apply AD|apply AE))<;>(intro hc;(try simp only[AR]at hc);(try simp only[hc]);(try simp only[AQ]at hc);try omega))
   subst hQ
   exact⟨by rw[hn],st1⟩
  |true=>
   rw[hb]at hu hle
   repeat' (first
    |refine St.h ?_
    |simp(disch:=first|omega|(simp only[AJ];omega))only[AK,↓AB,↓reduceIte,seval,f0,f3,hz,hL1.ln,hL1.ix,hL1.l0,ek,hle,Int.toNat_natCast]
    |(with_reducible (first|apply AD|apply AE))<;>(intro hc;(try simp only[AR]at hc);(try simp only[hc]);(try simp only[AQ]at hc);try omega))
   refine Bq hI (L.length-(j+1)) (by omega) ⟨j+1,rfl,by omega,st1,by rw[II,hs,hu];rfl,?_,?_⟩
   ·simp(disch:=first|omega|(simp only[AJ];omega))only[AK,↓AB,↓reduceIte,seval,f0]
   ·simp(disch:=first|omega|(simp only[AJ];omega))only[AK,↓AB,↓reduceIte,seval];rfl
theorem gC (L:List Bs):(L.flatMap Fu).length=L.length*3:=EB Cs L
/--append(u,x) of a write -/
theorem Pb {h:H} {u:V} {M:List Bs} {x:Bs} {id:B} {N:Nx} (b:EY h 39 3 u (M.flatMap Fu)) (o:Ev.Own h id (Fu x)) (hl:M.length<=100000) (hf:B.val h.floor<=B.val h.next)
 (k:∀ u' h',EY h' 39 3 u' ((M++[x]).flatMap Fu)->AZ (BT u) h h'->(∀ i,BT u' i->BT u i\/B.val h.next<=B.val i)->N.go Try.prog u' h'):AP Try.prog 39 3 u (.l id 0 0 1 3 (some 1)) h N:=by
 refine AP.buf (vs:=Fu x) (cnt:=1) b (QJ o.row rfl (Nat.le_refl _) (by omega) (by show 3<=3;omega)) hf (by omega) rfl rfl (by rw[gC];show M.length*3+3<=1048576;omega) fun u' h' b' s' hu _=>?_
 refine k u' h' ?_ s' hu
 rw[List.flatMap_append];simpa using b'
theorem O0 {h:H} {v w:V} {L M:List Bs} (hL:Ws h v L) (hM:Ws h w M) (hl:L.length<=100000) (hm:M.length<=100000):BZ Try.prog 29 [v,w] h fun y h'=>y=.b (decide (L=M))/\h'=h:=by
 refine BP xp (by intro hb;cases hb) (by simp) (by simp) fun Q hQ=>?_
 simp only[Ay,Nat.reduceAdd]
 by_cases hlen:L.length=M.length
 case neg=>
  have hd:((L.length:Int)=(M.length:Int))=False:=eq_false (by omega)
  repeat' (first
   |refine St.h ?_
   |simp(disch:=first|omega|(simp only[AJ];omega))only[AK,↓AB,↓reduceIte,seval,hL.ln,hM.ln,hd]
   |(with_reducible (first|apply AD|apply AE))<;>(intro hc;(try simp only[AR]at hc);(try simp only[hc]);(try simp only[AQ]at hc);try omega))
  subst hQ
  exact⟨by rw[decide_eq_false (fun e=>hlen (by rw[e]))],rfl⟩
 have hd:((L.length:Int)=(M.length:Int))=True:=eq_true (by omega)
 repeat' (first
  |refine St.h ?_
  |simp(disch:=first|omega|(simp only[AJ];omega))only[AK,↓AB,↓reduceIte,seval,hL.ln,hM.ln,hd]
  |(with_reducible (first|apply AD|apply AE))<;>(intro hc;(try simp only[AR]at hc);(try simp only[hc]);(try simp only[AQ]at hc);try omega))
 refine Ok.lp (fun m t g=>∃ j:Nat,m=L.length-j/\h=g/\(∀ i,i<j->L.getD i default=M.getD i default)/\j<=L.length/\get 0 t=v/\get 1 t=w/\get 5 t=.i .i64 (j:Int)) L.length ?_ ?_
 ·simp(disch:=first|omega|(simp only[AJ];omega))only[AK,↓AB,↓reduceIte,seval]
  refine⟨0,by omega,trivial,fun i hi=>by omega,by omega,?_⟩
  repeat' (first|trivial|rfl|refine And.intro ?_ ?_)
 rintro I hI m t g ⟨j,rfl,rfl,he,hj,f0,f1,f5⟩
 by_cases hje:L.getD j default=M.getD j default
 ·have SY:(M.getD j default).key=(M.getD j default).key/\(M.getD j default).del=(M.getD j default).del/\(M.getD j default).val=(M.getD j default).val:=⟨rfl,rfl,rfl⟩
  repeat' (first
   |refine St.h ?_
   |simp(disch:=first|omega|(simp only[AJ];omega))only[AK,↓AB,↓reduceIte,seval,f0,f1,f5,hL.ln,hL.ix,hM.ix,hL.la,hM.la,hje,Int.toNat_natCast]
   |(with_reducible (first|apply AD|apply AE))<;>(intro hc;(try simp only[AR]at hc);(try simp only[hc]);(try simp only[AQ]at hc);try omega))
  ·refine Bq hI (L.length-(j+1)) (by omega) ⟨j+1,rfl,rfl,fun i hi=>?_,by omega,?_,?_,?_⟩
   ·by_cases e:i=j
    ·subst e;exact hje
    ·exact he i (by omega)
   ·simp(disch:=first|omega|(simp only[AJ];omega))only[AK,↓AB,↓reduceIte,seval,f0]
   ·simp(disch:=first|omega|(simp only[AJ];omega))only[AK,↓AB,↓reduceIte,seval,f1]
   ·simp(disch:=first|omega|(simp only[AJ];omega))only[AK,↓AB,↓reduceIte,seval];rfl
  ·obtain rfl:j=L.length:=by omega
   subst hQ
   refine⟨?_,rfl⟩
   rw[decide_eq_true]
   refine List.ext_getElem hlen fun i h1 h2=>?_
   have:=he i h1
   simpa[List.getD,h1,h2]using this
 ·have SY:decide ((L.getD j default).key=(M.getD j default).key/\(L.getD j default).del=(M.getD j default).del/\(L.getD j default).val=(M.getD j default).val)=false:=decide_eq_false fun e=>hje (QK e)
  repeat' (first
   |refine St.h ?_
   |simp(disch:=first|omega|(simp only[AJ];omega))only[AK,↓AB,↓reduceIte,seval,f0,f1,f5,hL.ln,hL.ix,hM.ix,hL.la,hM.la,SY,Int.toNat_natCast]
   |(with_reducible (first|apply AD|apply AE))<;>(intro hc;(try simp only[AR]at hc);(try simp only[hc]);(try simp only[AQ]at hc);try omega))
  ·subst hQ
   exact⟨by rw[decide_eq_false (fun e=>hje (by rw[e]))],rfl⟩
  ·obtain rfl:j=L.length:=by omega
   exact absurd (by simp[List.getD,<-hlen]) hje
end Go.Proofs.Ytmlcddeikgechaa
set_option maxRecDepth 100000
set_option maxHeartbeats 8000000
namespace Go.Proofs.Ytmlcddeikgechaa
open Go Go.Ev
theorem E3 (l:List UInt8) (h:l.length<=9223372036854775807):(Al l).length<=l.length+9:=by
 unfold Al;rw[List.length_append];have:=BO h;omega
end Go.Proofs.Ytmlcddeikgechaa
set_option maxRecDepth 100000
set_option maxHeartbeats 8000000
namespace Go.Proofs.Ytmlcddeikgechaa
open Go Go.Ev
theorem KA {L:List Bs} {j:Nat} (hj:j<L.length):A7 L.length++(L.take (j+1)).flatMap CH=A7 L.length++(L.take j).flatMap CH++CH (L.getD j default):=by
 rw[OB hj,List.flatMap_append];simp
theorem OC {w:Bs} (h:Pd w=true):(CH w).length<=60:=by
 have hr:=Iu h
 have l1:=E3 w.key (by omega)
 have l2:=E3 w.val (by omega)
 unfold CH
 rw[List.length_append]
 split
 ·simp;omega
 ·rw[List.length_cons];omega
theorem Ix {L:List Bs} (hB:Ho L=true):∀ {j:Nat},j<=L.length->((L.take j).flatMap CH).length<=60*j
 |0,_=>by simp
 |j+1,hj=>by
  have h1:=Ix hB (j:=j) (by omega)
  have h2:=OC (LG (LH hB (j:=j) (by omega)))
  rw[OB (by omega),List.flatMap_append,List.length_append,List.flatMap_cons,List.flatMap_nil,List.append_nil]
  omega
theorem Qn {h:H} {v:V} {L:List Bs} (hL:Ws h v L) (hB:Ho L=true) (hf:B.val h.floor<=B.val h.next):BZ Try.prog 23 [v] h fun y h'=>y=sv (Bf L)/\AZ AM h h':=by
 have hl:=Gc hB
 refine BP xR (by intro hb;cases hb) (by simp) (by simp) fun Q hQ=>?_
 simp only[Ay,Nat.reduceAdd]
 repeat' (first
  |refine St.h ?_
  |simp(disch:=first|omega|(simp only[AJ];omega))only[AK,↓AB,↓reduceIte,seval,hL.ln]
  |(with_reducible (first|apply AD|apply AE))<;>(intro hc;(try simp only[AR]at hc);(try simp only[hc]);(try simp only[AQ]at hc);try omega))
 refine CL.stay (Et (by omega) hf) fun h1 s1=>?_
 have en:((L.length:Int)).toNat=L.length:=by omega
 have ln:=BO (n:=L.length) (by omega)
 repeat' (first
  |refine St.h ?_
  |simp(disch:=first|omega|(simp only[AJ];omega))only[AK,↓AB,↓reduceIte,seval,en]
  |(with_reducible (first|apply AD|apply AE))<;>(intro hc;(try simp only[AR]at hc);(try simp only[hc]);(try simp only[AQ]at hc);try omega))
 refine Ok.lp (fun m t g=>∃ j:Nat,m=L.length-j/\j<=L.length/\AZ AM h g/\get 0 t=v/\get 3 t=sv (A7 L.length++(L.take j).flatMap CH)/\get 4 t=.i .i64 (j:Int)) L.length ?_ ?_
 ·simp(disch:=first|omega|(simp only[AJ];omega))only[AK,↓AB,↓reduceIte,seval,en]
  refine⟨0,by omega,by omega,s1,?_,?_,?_⟩<;>first|trivial|rfl|simp
 rintro I hI m t g ⟨j,rfl,hj,st,f0,f3,f4⟩
 have hLg:=hL.grow st
 have hfg:=st.fl hf
 by_cases hjl:j<L.length
 ·have hr:=Iu (LG (LH hB hjl))
  have hrl:=Ix hB hj
  have l1:=E3 (L.getD j default).key (by omega)
  have l2:=E3 (L.getD j default).val (by omega)
  have hcat:=KA hjl
  repeat' (first
   |refine St.h ?_
   |simp(disch:=first|omega|(simp only[AJ];omega))only[AK,↓AB,↓reduceIte,seval,f0,f3,f4,hLg.ln,hLg.ix,hLg.l0,hLg.l1,hLg.l2,Int.toNat_natCast]
   |(with_reducible (first|apply AD|apply AE))<;>(intro hc;(try simp only[AR]at hc);(try simp only[hc]);(try simp only[AQ]at hc);try omega))
  refine CL.stay (Oe (by omega) hfg) fun g1 t1=>?_
  have hL1:=hLg.grow t1
  have hf1:=t1.fl hfg
  cases hd:(L.getD j default).del with
  |true=>
   repeat' (first
    |refine St.h ?_
    |simp(disch:=first|omega|(simp only[AJ];omega))only[AK,↓AB,↓reduceIte,seval,f0,f3,f4,hL1.ln,hL1.ix,hL1.l0,hL1.l1,hL1.l2,hd,Int.toNat_natCast]
    |(with_reducible (first|apply AD|apply AE))<;>(intro hc;(try simp only[AR]at hc);(try simp only[hc]);(try simp only[AQ]at hc);try omega))
   refine Bq hI (L.length-(j+1)) (by omega) ⟨j+1,rfl,by omega,st.trans t1,?_,?_,?_⟩
   ·simp(disch:=first|omega|(simp only[AJ];omega))only[AK,↓AB,↓reduceIte,seval,f0]
   ·rw[hcat];unfold CH;rw[hd];simp(disch:=first|omega|(simp only[AJ];omega))only[AK,↓AB,↓reduceIte,seval];simp
   ·simp(disch:=first|omega|(simp only[AJ];omega))only[AK,↓AB,↓reduceIte,seval];rfl
  |false=>
   repeat' (first
    |refine St.h ?_
    |simp(disch:=first|omega|(simp only[AJ];omega))only[AK,↓AB,↓reduceIte,seval,f0,f3,f4,hL1.ln,hL1.ix,hL1.l0,hL1.l1,hL1.l2,hd,Int.toNat_natCast]
    |(with_reducible (first|apply AD|apply AE))<;>(intro hc;(try simp only[AR]at hc);(try simp only[hc]);(try simp only[AQ]at hc);try omega))
   refine CL.stay (Oe (by omega) hf1) fun g2 t2=>?_
   repeat' (first
    |refine St.h ?_
    |simp(disch:=first|omega|(simp only[AJ];omega))only[AK,↓AB,↓reduceIte,seval,f0,f3,f4]
    |(with_reducible (first|apply AD|apply AE))<;>(intro hc;(try simp only[AR]at hc);(try simp only[hc]);(try simp only[AQ]at hc);try omega))
   refine Bq hI (L.length-(j+1)) (by omega) ⟨j+1,rfl,by omega,(st.trans t1).trans t2,?_,?_,?_⟩
   ·simp(disch:=first|omega|(simp only[AJ];omega))only[AK,↓AB,↓reduceIte,seval,f0]
   ·rw[hcat];unfold CH;rw[hd];simp(disch:=first|omega|(simp only[AJ];omega))only[AK,↓AB,↓reduceIte,seval];simp
   ·simp(disch:=first|omega|(simp only[AJ];omega))only[AK,↓AB,↓reduceIte,seval];rfl
 ·obtain rfl:j=L.length:=by omega
  repeat' (first
   |refine St.h ?_
   |simp(disch:=first|omega|(simp only[AJ];omega))only[AK,↓AB,↓reduceIte,seval,f0,f3,f4,hLg.ln]
   |(with_reducible (first|apply AD|apply AE))<;>(intro hc;(try simp only[AR]at hc);(try simp only[hc]);(try simp only[AQ]at hc);try omega))
  subst hQ
  exact⟨by rw[List.take_length];rfl,st⟩
theorem D4 {L:List Bs} (hB:Ho L=true):(Bf L).length<=500:=by
 have hl:=Gc hB
 have h1:=Ix hB (Nat.le_refl _)
 have ln:=BO (n:=L.length) (by omega)
 rw[List.take_length]at h1
 unfold Bf;rw[List.length_append];omega
theorem Nj {h:H} {s:List UInt8} (hs:s.length<=1000000) (hf:B.val h.floor<=B.val h.next):BZ Try.prog 28 [sv s] h fun y h'=>∃ (u:V) (n:Int),y=.tu [u,.i .i64 n,.b (Br s).isSome]/\Ws h' u ((Br s).getD [])/\(∀ q,BT u q->B.val h.next<=B.val q)/\AZ AM h h':=by
 refine BP yK (by intro hb;cases hb) (by simp) (by simp) fun Q hQ=>?_
 simp only[Ay,Nat.reduceAdd]
 repeat' (first
  |refine St.h ?_
  |simp(disch:=first|omega|(simp only[AJ];omega))only[AK,↓AB,↓reduceIte,seval]
  |(with_reducible (first|apply AD|apply AE))<;>(intro hc;(try simp only[AR]at hc);(try simp only[hc]);(try simp only[AQ]at hc);try omega))
 refine CL.pure (Fh hs) ?_
 have hnil:∀ n:Int,Br s=none->∃ (u:V) (m:Int),V.tu [V.l0,.i .i64 n,.b false]=.tu [u,.i .i64 m,.b (Br s).isSome]/\Ws h u ((Br s).getD [])/\(∀ q,BT u q->B.val h.next<=B.val q)/\AZ AM h h:=fun n e=>by
  rw[e]
  refine⟨.l0,n,rfl,Ss.nil,?_,AZ.refl _ _⟩
  rintro i ⟨_,_,_,_,_,e⟩;cases e
 rcases Bi s with(e|e)|⟨n,k,e,hn,k1,k2,k3⟩
 ·have e0:Br s=none:=by unfold Br;rw[e];rfl
  repeat' (first
   |refine St.h ?_
   |simp(disch:=first|omega|(simp only[AJ];omega))only[AK,↓AB,↓reduceIte,seval,e,Hf]
   |(with_reducible (first|apply AD|apply AE))<;>(intro hc;(try simp only[AR]at hc);(try simp only[hc]);(try simp only[AQ]at hc);try omega))
  subst hQ
  exact hnil 0 e0
 ·have e0:Br s=none:=by unfold Br;rw[e];rfl
  repeat' (first
   |refine St.h ?_
   |simp(disch:=first|omega|(simp only[AJ];omega))only[AK,↓AB,↓reduceIte,seval,e,Hf]
   |(with_reducible (first|apply AD|apply AE))<;>(intro hc;(try simp only[AR]at hc);(try simp only[hc]);(try simp only[AQ]at hc);try omega))
  subst hQ
  exact hnil 0 e0
 by_cases h8:8<n
 ·have e0:Br s=none:=by unfold Br;rw[e,if_pos (Or.inr (by show(8:Int)<(n:Int);omega))]
  have hc8:((8:Int)<(n:Int))=True:=eq_true (by omega)
  repeat' (first
   |refine St.h ?_
   |simp(disch:=first|omega|(simp only[AJ];omega))only[AK,↓AB,↓reduceIte,seval,e,Hf,hc8]
   |(with_reducible (first|apply AD|apply AE))<;>(intro hc;(try simp only[AR]at hc);(try simp only[hc]);(try simp only[AQ]at hc);try omega))
  subst hQ
  exact hnil 0 e0
 have e0:Br s=(Bt n (s.drop k)).map (·.1):=by
  unfold Br
  rw[e,if_neg (by show ¬((0:Int)≠0\/(8:Int)<(n:Int));omega)];rfl
 have hc8:((8:Int)<(n:Int))=False:=eq_false (by omega)
 repeat' (first
  |refine St.h ?_
  |simp(disch:=first|omega|(simp only[AJ];omega))only[AK,↓AB,↓reduceIte,seval,e,Hf,hc8]
  |(with_reducible (first|apply AD|apply AE))<;>(intro hc;(try simp only[AR]at hc);(try simp only[hc]);(try simp only[AQ]at hc);try omega))
 refine Ok.lp (fun m t g=>∃ (j a:Nat) (u:V) (M:List Bs),m=n-j/\j<=n/\a<=s.length/\M.length=j/\Bt n (s.drop k)=(Bt (n-j) (s.drop a)).map (fun r=>(M++r.1,r.2))/\get 0 t=sv s/\get 5 t=.i .i64 (n:Int)/\get 6 t=.i .i64 (a:Int)/\get 8 t=u/\get 9 t=.i .i64 (j:Int)/\EY g 39 3 u (M.flatMap Fu)/\(∀ q,BT u q->B.val h.next<=B.val q)/\AZ AM h g) n ?_ ?_
 ·simp(disch:=first|omega|(simp only[AJ];omega))only[AK,↓AB,↓reduceIte,seval]
  refine⟨0,k,.l0,[],by omega,by omega,k3,rfl,?_,?_,?_,?_,?_,?_,EY.nil _ _ _,?_,AZ.refl _ _⟩
  rotate_right
  ·rintro i ⟨_,_,_,_,_,e⟩;cases e
  ·rw[Nat.sub_zero];cases Bt n (s.drop k)<;>simp
  all_goals first|trivial|rfl
 rintro I hI m t g ⟨j,a,u,M,rfl,hj,ha,hM,hT,f0,f5,f6,f8,f9,bf,own,st⟩
 have hfg:=st.fl hf
 by_cases hjn:j<n
 case neg=>
  obtain rfl:j=n:=by omega
  rw[Nat.sub_self]at hT
  have e1:Br s=some M:=by rw[e0,hT];simp[Bt]
  repeat' (first
   |refine St.h ?_
   |simp(disch:=first|omega|(simp only[AJ];omega))only[AK,↓AB,↓reduceIte,seval,f0,f5,f6,f8,f9]
   |(with_reducible (first|apply AD|apply AE))<;>(intro hc;(try simp only[AR]at hc);(try simp only[hc]);(try simp only[AQ]at hc);try omega))
  subst hQ
  rw[e1]
  exact⟨u,a,rfl,Ss.buf bf rfl Cs (by omega),own,st⟩
 obtain⟨d,hd⟩:∃ d,n-j=d+1:=⟨n-j-1,by omega⟩
 rw[hd]at hT
 have hdl:(s.drop a).length=s.length-a:=List.length_drop
 repeat' (first
  |refine St.h ?_
  |simp(disch:=first|omega|(simp only[AJ];omega))only[AK,↓AB,↓reduceIte,seval,f0,f5,f6,f8,f9,Int.toNat_natCast]
  |(with_reducible (first|apply AD|apply AE))<;>(intro hc;(try simp only[AR]at hc);(try simp only[hc]);(try simp only[AQ]at hc);try omega))
 refine CL.pure (Ip (by omega)) ?_
 have hfail:Bt (d+1) (s.drop a)=none->Br s=none:=fun e=>by rw[e0,hT,e];rfl
 have hend:Br s=none->∃ (u:V) (m:Int),V.tu [V.l0,.i .i64 0,.b false]=.tu [u,.i .i64 m,.b (Br s).isSome]/\Ws g u ((Br s).getD [])/\(∀ q,BT u q->B.val h.next<=B.val q)/\AZ AM h g:=fun e=>by
  rw[e]
  refine⟨.l0,0,rfl,Ss.nil,?_,st⟩
  rintro i ⟨_,_,_,_,_,e⟩;cases e
 have hz0:((10:Int)=0)=False:=eq_false (by decide)
 have hz1:((12:Int)=0)=False:=eq_false (by decide)
 have hTW:Bt (d+1) (s.drop a)=if (A2 (s.drop a)).2.2≠0\/(A2 (s.drop a)).2.1=((s.drop a).length:Int)then none
  else if (s.drop a).getD (A2 (s.drop a)).2.1.toNat 0=1 then (Bt d ((s.drop a).drop ((A2 (s.drop a)).2.1.toNat+1))).map fun r=>(⟨(A2 (s.drop a)).1,true,[]⟩::r.1,r.2)
  else if (A2 ((s.drop a).drop ((A2 (s.drop a)).2.1.toNat+1))).2.2≠0 then none
  else (Bt d (((s.drop a).drop ((A2 (s.drop a)).2.1.toNat+1)).drop (A2 ((s.drop a).drop ((A2 (s.drop a)).2.1.toNat+1))).2.1.toNat)).map fun r=>(⟨(A2 (s.drop a)).1,false,(A2 ((s.drop a).drop ((A2 (s.drop a)).2.1.toNat+1))).1⟩::r.1,r.2):=rfl
 rcases Fp (s.drop a)with(e1|e1)|⟨v,q,e1,q1,q2,q3⟩
 ·have en:=hfail (by rw[hTW,e1];rfl)
  repeat' (first
   |refine St.h ?_
   |simp(disch:=first|omega|(simp only[AJ];omega))only[AK,↓AB,↓reduceIte,seval,f0,f5,f6,f8,f9,e1,GZ,hz0]
   |(with_reducible (first|apply AD|apply AE))<;>(intro hc;(try simp only[AR]at hc);(try simp only[hc]);(try simp only[AQ]at hc);try omega))
  subst hQ
  exact hend en
 ·have en:=hfail (by rw[hTW,e1];rfl)
  repeat' (first
   |refine St.h ?_
   |simp(disch:=first|omega|(simp only[AJ];omega))only[AK,↓AB,↓reduceIte,seval,f0,f5,f6,f8,f9,e1,GZ,hz1]
   |(with_reducible (first|apply AD|apply AE))<;>(intro hc;(try simp only[AR]at hc);(try simp only[hc]);(try simp only[AQ]at hc);try omega))
  subst hQ
  exact hend en
 rw[hdl]at q2
 by_cases hqe:a+q=s.length
 ·have en:=hfail (by rw[hTW,e1,if_pos (Or.inr (by show(q:Int)=((s.drop a).length:Int);omega))])
  have hq:((a:Int)+(q:Int)=(s.length:Int))=True:=eq_true (by omega)
  repeat' (first
   |refine St.h ?_
   |simp(disch:=first|omega|(simp only[AJ];omega))only[AK,↓AB,↓reduceIte,seval,f0,f5,f6,f8,f9,e1,GZ,hq]
   |(with_reducible (first|apply AD|apply AE))<;>(intro hc;(try simp only[AR]at hc);(try simp only[hc]);(try simp only[AQ]at hc);try omega))
  subst hQ
  exact hend en
 have hq:((a:Int)+(q:Int)=(s.length:Int))=False:=eq_false (by omega)
 have eaq:((a:Int)+(q:Int)).toNat=a+q:=by omega
 have hgd:(s.drop a).getD q 0=s.getD (a+q) 0:=by simp[List.getD,List.getElem?_drop]
 have hdd:(s.drop a).drop (q+1)=s.drop (a+q+1):=by rw[List.drop_drop,Nat.add_assoc]
 have hdl2:(s.drop (a+q+1)).length=s.length-(a+q+1):=List.length_drop
 have eq1:(q:Int).toNat=q:=by omega
 have hb:=(s.getD (a+q) 0).toNat_lt
 have hTW2:Bt (d+1) (s.drop a)=if s.getD (a+q) 0=1 then (Bt d (s.drop (a+q+1))).map fun r=>(⟨v,true,[]⟩::r.1,r.2)
  else if (A2 (s.drop (a+q+1))).2.2≠0 then none
  else (Bt d ((s.drop (a+q+1)).drop (A2 (s.drop (a+q+1))).2.1.toNat)).map fun r=>(⟨v,false,(A2 (s.drop (a+q+1))).1⟩::r.1,r.2):=by
  rw[hTW,e1]
  show(if (0:Int)≠0\/(q:Int)=((s.drop a).length:Int)then none else _)=_
  rw[if_neg (by omega),eq1,hgd,hdd]
 by_cases hc1:s.getD (a+q) 0=1
 ·have hc:(((s.getD (a+q) 0).toNat:Int)=1)=True:=eq_true (by rw[hc1];rfl)
  rw[if_pos hc1]at hTW2
  repeat' (first
   |refine St.h ?_
   |simp(disch:=first|omega|(simp only[AJ];omega))only[AK,↓AB,↓reduceIte,seval,f0,f5,f6,f8,f9,e1,GZ,hq,eaq,hc]
   |(with_reducible (first|apply AD|apply AE))<;>(intro hc;(try simp only[AR]at hc);(try simp only[hc]);(try simp only[AQ]at hc);try omega))
  refine AL.own (by simp) hfg fun g1 t1 _ o1=>?_
  have hf1:=t1.fl hfg
  repeat' (first
   |refine St.h ?_
   |simp(disch:=first|omega|(simp only[AJ];omega))only[AK,↓AB,↓reduceIte,seval,f0,f5,f6,f8,f9]
   |(with_reducible (first|apply AD|apply AE))<;>(intro hc;(try simp only[AR]at hc);(try simp only[hc]);(try simp only[AQ]at hc);try omega))
  refine ST.all o1 rfl rfl (by simp) (by simp) fun g2 o2 t2=>?_
  have hf2:=t2.fl hf1
  have o2r:=o2.row
  have t12:AZ AM g g2:=t1.B3 t2 fun i e=>by rw[e];exact Nat.le_refl _
  repeat' (first
   |refine St.h ?_
   |simp(disch:=first|omega|(simp only[AJ];omega))only[AK,↓AB,↓reduceIte,seval,f0,f5,f6,f8,f9,o2r.l1,o2r.ln]
   |(with_reducible (first|apply AD|apply AE))<;>(intro hc;(try simp only[AR]at hc);(try simp only[hc]);(try simp only[AQ]at hc);try omega))
  refine AL.own (by simp) hf2 fun g5 t5 _ q5=>?_
  have b5:=bf.grow (t12.trans t5)
  repeat' (first
   |refine St.h ?_
   |simp(disch:=first|omega|(simp only[AJ];omega))only[AK,↓AB,↓reduceIte,seval,f0,f5,f6,f8,f9]
   |(with_reducible (first|apply AD|apply AE))<;>(intro hc;(try simp only[AR]at hc);(try simp only[hc]);(try simp only[AQ]at hc);try omega))
  refine Pb (x:=⟨v,true,[]⟩) b5 q5 (by omega) (t5.fl hf2) fun u2 g6 b6 t6 ho=>?_
  have st6:=(st.trans (t12.trans t5)).B3 t6 fun q hq=>own q hq
  have n5:=(st.trans (t12.trans t5)).next
  repeat' (first
   |refine St.h ?_
   |simp(disch:=first|omega|(simp only[AJ];omega))only[AK,↓AB,↓reduceIte,seval,f0,f5,f6,f8,f9]
   |(with_reducible (first|apply AD|apply AE))<;>(intro hc;(try simp only[AR]at hc);(try simp only[hc]);(try simp only[AQ]at hc);try omega))
  refine Bq hI (n-(j+1)) (by omega) ⟨j+1,a+q+1,u2,M++[⟨v,true,[]⟩],rfl,by omega,by omega,by rw[List.length_append,hM];rfl,?_,?_,?_,?_,?_,?_,b6,fun i hi=>?_,st6⟩
  ·rw[hT,hTW2,show n-(j+1)=d by omega]
   cases Bt d (s.drop (a+q+1))<;>simp
  ·simp(disch:=first|omega|(simp only[AJ];omega))only[AK,↓AB,↓reduceIte,seval,f0]
  ·simp(disch:=first|omega|(simp only[AJ];omega))only[AK,↓AB,↓reduceIte,seval,f5]
  ·simp(disch:=first|omega|(simp only[AJ];omega))only[AK,↓AB,↓reduceIte,seval];push_cast;first|rfl|(congr 1;omega)
  ·simp(disch:=first|omega|(simp only[AJ];omega))only[AK,↓AB,↓reduceIte,seval]
  ·simp(disch:=first|omega|(simp only[AJ];omega))only[AK,↓AB,↓reduceIte,seval];rfl
  ·rcases ho i hi with h3|h3
   ·exact own i h3
   ·omega
 ·have hc:(((s.getD (a+q) 0).toNat:Int)=1)=False:=eq_false (fun e=>hc1 (by apply UInt8.toNat_inj.1;show(s.getD (a+q) 0).toNat=1;omega))
  rw[if_neg hc1]at hTW2
  repeat' (first
   |refine St.h ?_
   |simp(disch:=first|omega|(simp only[AJ];omega))only[AK,↓AB,↓reduceIte,seval,f0,f5,f6,f8,f9,e1,GZ,hq,eaq,hc]
   |(with_reducible (first|apply AD|apply AE))<;>(intro hc;(try simp only[AR]at hc);(try simp only[hc]);(try simp only[AQ]at hc);try omega))
  refine AL.own (by simp) hfg fun g1 t1 _ o1=>?_
  have hf1:=t1.fl hfg
  repeat' (first
   |refine St.h ?_
   |simp(disch:=first|omega|(simp only[AJ];omega))only[AK,↓AB,↓reduceIte,seval,f0,f5,f6,f8,f9]
   |(with_reducible (first|apply AD|apply AE))<;>(intro hc;(try simp only[AR]at hc);(try simp only[hc]);(try simp only[AQ]at hc);try omega))
  refine ST.all o1 rfl rfl (by simp) (by simp) fun g2 o2 t2=>?_
  have hf2:=t2.fl hf1
  have o2r:=o2.row
  have t12:AZ AM g g2:=t1.B3 t2 fun i e=>by rw[e];exact Nat.le_refl _
  have eaq1:((a:Int)+(q:Int)+1).toNat=a+q+1:=by omega
  repeat' (first
   |refine St.h ?_
   |simp(disch:=first|omega|(simp only[AJ];omega))only[AK,↓AB,↓reduceIte,seval,f0,f5,f6,f8,f9,o2r.l1,o2r.ln,eaq1]
   |(with_reducible (first|apply AD|apply AE))<;>(intro hc;(try simp only[AR]at hc);(try simp only[hc]);(try simp only[AQ]at hc);try omega))
  refine CL.pure (Ip (by omega)) ?_
  have hend2:Br s=none->∃ (u:V) (m:Int),V.tu [V.l0,.i .i64 0,.b false]=.tu [u,.i .i64 m,.b (Br s).isSome]/\Ws g2 u ((Br s).getD [])/\(∀ q,BT u q->B.val h.next<=B.val q)/\AZ AM h g2:=fun e=>by
   rw[e]
   refine⟨.l0,0,rfl,Ss.nil,?_,st.trans t12⟩
   rintro i ⟨_,_,_,_,_,e⟩;cases e
  rcases Fp (s.drop (a+q+1))with(e2|e2)|⟨v2,r,e2,r1,r2,r3⟩
  ·have en:=hfail (by rw[hTW2,e2];rfl)
   repeat' (first
    |refine St.h ?_
    |simp(disch:=first|omega|(simp only[AJ];omega))only[AK,↓AB,↓reduceIte,seval,f0,f5,f6,f8,f9,e2,GZ,hz0]
    |(with_reducible (first|apply AD|apply AE))<;>(intro hc;(try simp only[AR]at hc);(try simp only[hc]);(try simp only[AQ]at hc);try omega))
   subst hQ
   exact hend2 en
  ·have en:=hfail (by rw[hTW2,e2];rfl)
   repeat' (first
    |refine St.h ?_
    |simp(disch:=first|omega|(simp only[AJ];omega))only[AK,↓AB,↓reduceIte,seval,f0,f5,f6,f8,f9,e2,GZ,hz1]
    |(with_reducible (first|apply AD|apply AE))<;>(intro hc;(try simp only[AR]at hc);(try simp only[hc]);(try simp only[AQ]at hc);try omega))
   subst hQ
   exact hend2 en
  rw[hdl2]at r2
  have er:(r:Int).toNat=r:=by omega
  have hdd2:(s.drop (a+q+1)).drop r=s.drop (a+q+1+r):=by rw[List.drop_drop]
  rw[e2]at hTW2
  have hTW2:Bt (d+1) (s.drop a)=(Bt d (s.drop (a+q+1+r))).map fun r=>(⟨v,false,v2⟩::r.1,r.2):=by
   rw[hTW2]
   show(if (0:Int)≠0 then none else _)=_
   rw[if_neg (by omega),er,hdd2]
  repeat' (first
   |refine St.h ?_
   |simp(disch:=first|omega|(simp only[AJ];omega))only[AK,↓AB,↓reduceIte,seval,f0,f5,f6,f8,f9,e2,GZ]
   |(with_reducible (first|apply AD|apply AE))<;>(intro hc;(try simp only[AR]at hc);(try simp only[hc]);(try simp only[AQ]at hc);try omega))
  refine ST.own o2 rfl rfl (by omega) (by omega) fun g3 o3 t3=>?_
  have hf3:=t3.fl hf2
  have o3r:=o3.row
  have t13:AZ AM g g3:=t12.B3 t3 fun i e=>by rw[e];exact Nat.le_refl _
  repeat' (first
   |refine St.h ?_
   |simp(disch:=first|omega|(simp only[AJ];omega))only[AK,↓AB,↓reduceIte,seval,f0,f5,f6,f8,f9,o3r.l1,o3r.ln]
   |(with_reducible (first|apply AD|apply AE))<;>(intro hc;(try simp only[AR]at hc);(try simp only[hc]);(try simp only[AQ]at hc);try omega))
  refine AL.own (by simp) hf3 fun g5 t5 _ q5=>?_
  have b5:=bf.grow (t13.trans t5)
  repeat' (first
   |refine St.h ?_
   |simp(disch:=first|omega|(simp only[AJ];omega))only[AK,↓AB,↓reduceIte,seval,f0,f5,f6,f8,f9]
   |(with_reducible (first|apply AD|apply AE))<;>(intro hc;(try simp only[AR]at hc);(try simp only[hc]);(try simp only[AQ]at hc);try omega))
  refine Pb (x:=⟨v,false,v2⟩) b5 q5 (by omega) (t5.fl hf3) fun u2 g6 b6 t6 ho=>?_
  have st6:=(st.trans (t13.trans t5)).B3 t6 fun q hq=>own q hq
  have n5:=(st.trans (t13.trans t5)).next
  repeat' (first
   |refine St.h ?_
   |simp(disch:=first|omega|(simp only[AJ];omega))only[AK,↓AB,↓reduceIte,seval,f0,f5,f6,f8,f9]
   |(with_reducible (first|apply AD|apply AE))<;>(intro hc;(try simp only[AR]at hc);(try simp only[hc]);(try simp only[AQ]at hc);try omega))
  refine Bq hI (n-(j+1)) (by omega) ⟨j+1,a+q+1+r,u2,M++[⟨v,false,v2⟩],rfl,by omega,by omega,by rw[List.length_append,hM];rfl,?_,?_,?_,?_,?_,?_,b6,fun i hi=>?_,st6⟩
  ·rw[hT,hTW2,show n-(j+1)=d by omega]
   cases Bt d (s.drop (a+q+1+r))<;>simp
  ·simp(disch:=first|omega|(simp only[AJ];omega))only[AK,↓AB,↓reduceIte,seval,f0]
  ·simp(disch:=first|omega|(simp only[AJ];omega))only[AK,↓AB,↓reduceIte,seval,f5]
  ·simp(disch:=first|omega|(simp only[AJ];omega))only[AK,↓AB,↓reduceIte,seval];push_cast;first|rfl|(congr 1;omega)
  ·simp(disch:=first|omega|(simp only[AJ];omega))only[AK,↓AB,↓reduceIte,seval]
  ·simp(disch:=first|omega|(simp only[AJ];omega))only[AK,↓AB,↓reduceIte,seval];rfl
  ·rcases ho i hi with h3|h3
   ·exact own i h3
   ·omega
end Go.Proofs.Ytmlcddeikgechaa
set_option maxRecDepth 100000
set_option maxHeartbeats 8000000
namespace Go.Proofs.Ytmlcddeikgechaa
open Go Go.Ev
theorem H7:∀ {n:Nat} {s:List UInt8} {L:List Bs} {r:List UInt8},Bt n s=some (L,r)->L.length=n
 |0,s,L,r,h=>by cases h;rfl
 |n+1,s,L,r,h=>by
  have hm:∀ {w:Bs} {o:Option (List Bs×List UInt8)},(∀ p,o=some p->p.1.length=n)->(o.map fun r=>(w::r.1,r.2))=some (L,r)->L.length=n+1:=by
   intro w o ho h2
   cases o with
   |none=>cases h2
   |some p=>
    have:=ho p rfl
    cases h2
    simp[this]
  unfold Bt at h
  split at h
  ·cases h
  ·split at h
   ·exact hm (fun p hp=>H7 (L:=p.1) (r:=p.2) hp) h
   ·split at h
    ·cases h
    ·exact hm (fun p hp=>H7 (L:=p.1) (r:=p.2) hp) h
theorem RE {s:List UInt8}:((Br s).getD []).length<=8:=by
 unfold Br
 split
 ·simp
 ·rename_i hn
  cases e:Bt (takeN s).1.toNat (s.drop (takeN s).2.1.toNat)with
  |none=>simp
  |some p=>
   have:=H7 (L:=p.1) (r:=p.2) e
   simp;omega
def vv (u:V) (r:Int×List Bs×Int×Int):V:=.tu [.i .i64 r.1,u,.i .i64 r.2.2.1,.i .i64 r.2.2.2]
theorem Lx {s b:List UInt8} {n:Nat} (e:CV s=(b,(n:Int),0)) (h:(takeN b).2.2≠0):Ei s=(0,[],0,10):=by
 unfold Ei
 rw[e]
 show(if (0:Int)≠0 then _ else if (takeN b).2.2≠0 then _ else _:Int×List Bs×Int×Int)=_
 rw[if_neg (by omega),if_pos h]
theorem Nq {s b:List UInt8} {n q k:Nat} (e:CV s=(b,(n:Int),0)) (e1:takeN b=((q:Int),(k:Int),0)):Ei s=match Br (b.drop k)with
 |none=>(0,[],0,10)
 |some l=>if (Du q l).2=0/\(Du q l).1=s.take n then ((q:Int),l,(n:Int),0)else (0,[],0,10):=by
 unfold Ei
 rw[e]
 show(if (0:Int)≠0 then _ else if (takeN b).2.2≠0 then _ else _:Int×List Bs×Int×Int)=_
 rw[if_neg (by omega),e1]
 show(if (0:Int)≠0 then _ else _:Int×List Bs×Int×Int)=_
 rw[if_neg (by omega)];rfl
theorem V7 {q:Int} {l:List Bs} (h:(Du q l).2=0):Eg q l=true/\(Du q l).1=Jq q l:=by
 unfold Du at h⊢
 cases ho:Eg q l with
 |false=>rw[ho]at h;simp at h
 |true=>exact⟨rfl,rfl⟩
end Go.Proofs.Ytmlcddeikgechaa
namespace Go.Proofs.Ytmlcddeikgechaa
open Go Go.Ev
theorem Mt {L:List Bs} (h:Ho L=true):∀ w∈L,Pd w=true:=fun w hw=>by
 obtain⟨i,hi,rfl⟩:=List.getElem_of_mem hw
 have:=LG (LH h hi)
 rwa [show L.getD i default=L[i]by simp[List.getD,hi]]at this
theorem G1:∀ {L:List Bs} (more:List UInt8),(∀ w∈L,Pd w=true)->Bt L.length (L.flatMap CH++more)=some (L,more)
 |[],_,_=>rfl
 |w::L,more,h=>by
  have hr:=Iu (h w (by simp))
  have ih:=G1 (L:=L) more fun x hx=>h x (List.mem_cons_of_mem _ hx)
  have e1:(w::L).flatMap CH++more=Al w.key++((if w.del then [1]else 0::Al w.val)++(L.flatMap CH++more)):=by
   rw[List.flatMap_cons];unfold CH;simp
  have hk:A2 (Al w.key++((if w.del then [1]else 0::Al w.val)++(L.flatMap CH++more)))=(w.key,((Al w.key).length:Int),0):=Fe (by omega)
  rw[e1,List.length_cons]
  unfold Bt
  rw[hk]
  have en:((Al w.key).length:Int).toNat=(Al w.key).length:=by omega
  have SZ:∀ X:List UInt8,(Al w.key++X).drop ((Al w.key).length+1)=X.drop 1:=fun X=>by
   rw[<-List.drop_drop,List.drop_left]
  have hg:∀ (c:UInt8) (X:List UInt8),(Al w.key++c::X).getD (Al w.key).length 0=c:=fun c X=>by simp[List.getD]
  cases hdel:w.del with
  |true=>
   have hv:=hr.2.2.2 hdel
   show(if (0:Int)≠0\/((Al w.key).length:Int)=(((Al w.key++([1]++(L.flatMap CH++more))).length:Nat):Int)then none else _)=_
   rw[if_neg (by rw[List.length_append];simp;omega),en]
   show(if (Al w.key++1::(L.flatMap CH++more)).getD (Al w.key).length 0=1 then _ else _)=_
   rw[hg,if_pos rfl]
   show Option.map _ (Bt L.length ((Al w.key++1::(L.flatMap CH++more)).drop ((Al w.key).length+1)))=_
   rw[SZ]
   show Option.map _ (Bt L.length (L.flatMap CH++more))=_
   rw[ih]
   show some ((⟨w.key,true,[]⟩:Bs)::L,more)=_
   rw[<-hdel,<-hv]
  |false=>
   show(if (0:Int)≠0\/((Al w.key).length:Int)=(((Al w.key++(0::Al w.val++(L.flatMap CH++more))).length:Nat):Int)then none else _)=_
   rw[if_neg (by rw[List.length_append];simp;omega),en]
   show(if (Al w.key++0::(Al w.val++(L.flatMap CH++more))).getD (Al w.key).length 0=1 then _ else _)=_
   rw[hg,if_neg (by decide)]
   have ev:(Al w.key++0::(Al w.val++(L.flatMap CH++more))).drop ((Al w.key).length+1)=Al w.val++(L.flatMap CH++more):=by rw[SZ];rfl
   show(if (A2 ((Al w.key++0::(Al w.val++(L.flatMap CH++more))).drop ((Al w.key).length+1))).2.2≠0 then none else Option.map (fun r=>((⟨w.key,false,(A2 ((Al w.key++0::(Al w.val++(L.flatMap CH++more))).drop ((Al w.key).length+1))).1⟩:Bs)::r.1,r.2)) (Bt L.length (((Al w.key++0::(Al w.val++(L.flatMap CH++more))).drop ((Al w.key).length+1)).drop (A2 ((Al w.key++0::(Al w.val++(L.flatMap CH++more))).drop ((Al w.key).length+1))).2.1.toNat)))=_
   rw[ev,Fe (by omega)]
   show(if (0:Int)≠0 then none else Option.map _ (Bt L.length ((Al w.val++(L.flatMap CH++more)).drop ((Al w.val).length:Int).toNat)))=_
   rw[if_neg (by omega),show((Al w.val).length:Int).toNat=(Al w.val).length by omega,List.drop_left,ih]
   show some ((⟨w.key,false,w.val⟩:Bs)::L,more)=_
   rw[<-hdel]
theorem E5 {q:Int} {L:List Bs}:Eg q L=true↔Ho L=true/\1<=q/\q<=1000000:=by
 unfold Eg;rw[Bool.and_eq_true,decide_eq_true_eq]
theorem LY {q:Nat} {L:List Bs} (h:Eg q L=true) (more:List UInt8):Ei (Jq q L++more)=((q:Int),L,((Jq q L).length:Int),0):=by
 obtain⟨hB,h1,h2⟩:=E5.1 h
 have hrl:=D4 hB
 have ln:=BO (n:=(q:Int).toNat) (by omega)
 have hl8:=Gc hB
 have e:CV (Jq q L++more)=(A7 (q:Int).toNat++Bf L,((Jq q L).length:Int),0):=C9 (by rw[List.length_append];omega)
 have eq1:(q:Int).toNat=q:=by omega
 have e1:takeN (A7 (q:Int).toNat++Bf L)=((q:Int),((A7 q).length:Int),0):=by rw[eq1];exact B5 (by omega) _
 have ht:Br ((A7 (q:Int).toNat++Bf L).drop (A7 q).length)=some L:=by
  rw[eq1,List.drop_left]
  unfold Br Bf
  rw[B5 (by omega)]
  show(if (0:Int)≠0\/(8:Int)<(L.length:Int)then none else Option.map _ (Bt (L.length:Int).toNat ((A7 L.length++L.flatMap CH).drop ((A7 L.length).length:Int).toNat)))=_
  rw[if_neg (by omega),show(L.length:Int).toNat=L.length by omega,show((A7 L.length).length:Int).toNat=(A7 L.length).length by omega,List.drop_left]
  have:=G1 (L:=L) [] (Mt hB)
  rw[List.append_nil]at this
  rw[this];rfl
 rw[Nq e e1,ht]
 show(if (Du q L).2=0/\(Du q L).1=(Jq q L++more).take (Jq q L).length then _ else _)=_
 have hb:Du q L=(Jq q L,0):=by unfold Du;rw[h];rfl
 rw[hb,if_pos ⟨rfl,(List.take_left ..).symm⟩]
end Go.Proofs.Ytmlcddeikgechaa
namespace Go.Proofs.Ytmlcddeikgechaa
open Go Go.Ev
/--the write at the front -/
def LQ (s:List UInt8):Option (Bs×Nat):=
 if (A2 s).2.2≠0\/(A2 s).2.1=(s.length:Int)then none
 else if s.getD (A2 s).2.1.toNat 0=0 then
  (if (A2 (s.drop ((A2 s).2.1.toNat+1))).2.2≠0 then none else some (⟨(A2 s).1,false,(A2 (s.drop ((A2 s).2.1.toNat+1))).1⟩,(A2 s).2.1.toNat+1+(A2 (s.drop ((A2 s).2.1.toNat+1))).2.1.toNat))
 else if s.getD (A2 s).2.1.toNat 0=1 then some (⟨(A2 s).1,true,[]⟩,(A2 s).2.1.toNat+1)else none
def FA:Nat->List UInt8->Option (List Bs)
 |0,_=>some []
 |n+1,s=>(LQ s).bind fun r=>(FA n (s.drop r.2)).map (r.1::·)
def Fa (s:List UInt8):Int×List Bs:=
 if (takeN s).2.2≠0 then (0,[])else
 let r:=s.drop (takeN s).2.1.toNat
 if (takeN r).2.2≠0\/8<(takeN r).1 then (0,[])else
 match FA (takeN r).1.toNat (r.drop (takeN r).2.1.toNat)with
 |none=>(0,[])
 |some l=>((takeN s).1,l)
theorem NO:∀ {n:Nat} {s:List UInt8} {l:List Bs},FA n s=some l->l.length=n
 |0,s,l,h=>by cases h;rfl
 |n+1,s,l,h=>by
  unfold FA at h
  cases e:LQ s with
  |none=>rw[e]at h;cases h
  |some r=>
   rw[e]at h
   have h:(FA n (s.drop r.2)).map (r.1::·)=some l:=h
   cases e2:FA n (s.drop r.2)with
   |none=>rw[e2]at h;cases h
   |some m=>
    rw[e2]at h;cases h
    simp[NO e2]
theorem QS (s:List UInt8):(Fa s).2.length<=8:=by
 unfold Fa
 split
 ·simp
 ·show(if _ then _ else _:Int×List Bs).2.length<=8
  split
  ·simp
  ·rename_i hn
   split
   ·simp
   ·rename_i l e
    have:=NO e
    show l.length<=8
    omega
theorem XQ (s:List UInt8):0<=(Fa s).1/\(Fa s).1<=9223372036854775807:=by
 have h:=Bi s
 have h3:0<=(takeN s).1/\(takeN s).1<=9223372036854775807:=by
  rcases h with(e|e)|⟨n,k,e,hn,_⟩
  ·rw[e];simp
  ·rw[e];simp
  ·rw[e];show 0<=(n:Int)/\(n:Int)<=_;omega
 unfold Fa
 split
 ·simp
 ·show 0<=(if _ then _ else _:Int×List Bs).1/\(if _ then _ else _:Int×List Bs).1<=_
  split
  ·simp
  ·split
   ·simp
   ·exact h3
theorem XR {w:Bs} (h:Pd w=true) (more:List UInt8):LQ (CH w++more)=some (w,(CH w).length):=by
 have hr:=Iu h
 have hk:∀ X,A2 (Al w.key++X)=(w.key,((Al w.key).length:Int),0):=fun X=>Fe (by omega)
 have en:((Al w.key).length:Int).toNat=(Al w.key).length:=by omega
 have SZ:∀ X:List UInt8,(Al w.key++X).drop ((Al w.key).length+1)=X.drop 1:=fun X=>by
  rw[<-List.drop_drop,List.drop_left]
 have hg:∀ (c:UInt8) (X:List UInt8),(Al w.key++c::X).getD (Al w.key).length 0=c:=fun c X=>by simp[List.getD]
 cases hdel:w.del with
 |true=>
  have hv:=hr.2.2.2 hdel
  have e1:CH w=Al w.key++[1]:=by unfold CH;rw[hdel];rfl
  have e2:CH w++more=Al w.key++1::more:=by rw[e1];simp
  have e3:(CH w).length=(Al w.key).length+1:=by rw[e1];simp
  rw[e2,e3]
  unfold LQ
  rw[hk,en]
  show(if (0:Int)≠0\/((Al w.key).length:Int)=(((Al w.key++1::more).length:Nat):Int)then none else _)=_
  rw[if_neg (by rw[List.length_append];simp;omega),hg,if_neg (by decide),if_pos rfl]
  show some ((⟨w.key,true,[]⟩:Bs),_)=_
  rw[<-hdel,<-hv]
 |false=>
  have e1:CH w=Al w.key++0::Al w.val:=by unfold CH;rw[hdel];rfl
  have e2:CH w++more=Al w.key++0::(Al w.val++more):=by rw[e1];simp
  have e3:(CH w).length=(Al w.key).length+1+(Al w.val).length:=by rw[e1];simp;omega
  have ev:(Al w.key++0::(Al w.val++more)).drop ((Al w.key).length+1)=Al w.val++more:=by rw[SZ];rfl
  rw[e2,e3]
  unfold LQ
  rw[hk,en]
  show(if (0:Int)≠0\/((Al w.key).length:Int)=(((Al w.key++0::(Al w.val++more)).length:Nat):Int)then none else _)=_
  rw[if_neg (by rw[List.length_append];simp;omega),hg,if_pos rfl]
  show(if (A2 ((Al w.key++0::(Al w.val++more)).drop ((Al w.key).length+1))).2.2≠0 then none else some ((⟨w.key,false,(A2 ((Al w.key++0::(Al w.val++more)).drop ((Al w.key).length+1))).1⟩:Bs),(Al w.key).length+1+(A2 ((Al w.key++0::(Al w.val++more)).drop ((Al w.key).length+1))).2.1.toNat))=_
  rw[ev,Fe (by omega)]
  show(if (0:Int)≠0 then none else some ((⟨w.key,false,w.val⟩:Bs),(Al w.key).length+1+((Al w.val).length:Int).toNat))=_
  rw[if_neg (by omega),show((Al w.val).length:Int).toNat=(Al w.val).length by omega,<-hdel]
theorem MD:∀ {L:List Bs} (more:List UInt8),(∀ w∈L,Pd w=true)->FA L.length (L.flatMap CH++more)=some L
 |[],_,_=>rfl
 |w::L,more,h=>by
  have ih:=MD (L:=L) more fun x hx=>h x (List.mem_cons_of_mem _ hx)
  rw[List.flatMap_cons,List.length_cons,List.append_assoc]
  unfold FA
  rw[XR (h w (by simp))]
  show(FA L.length ((CH w++(L.flatMap CH++more)).drop (CH w).length)).map (w::·)=_
  rw[List.drop_left,ih];rfl
theorem WM {q:Nat} {L:List Bs} (h:Eg q L=true):Fa (A7 q++Bf L)=((q:Int),L):=by
 obtain⟨hB,h1,h2⟩:=E5.1 h
 have hl8:=Gc hB
 unfold Fa
 rw[B5 (by omega)]
 show(if (0:Int)≠0 then _ else _:Int×List Bs)=_
 rw[if_neg (by omega)]
 have e1:(A7 q++Bf L).drop (((q:Int),((A7 q).length:Int),(0:Int)).2.1.toNat)=Bf L:=by
  show(A7 q++Bf L).drop ((A7 q).length:Int).toNat=_
  rw[show((A7 q).length:Int).toNat=(A7 q).length by omega,List.drop_left]
 rw[e1]
 have e2:takeN (Bf L)=((L.length:Int),((A7 L.length).length:Int),0):=by unfold Bf;exact B5 (by omega) _
 show(if (takeN (Bf L)).2.2≠0\/8<(takeN (Bf L)).1 then ((0:Int),([]:List Bs))else match FA (takeN (Bf L)).1.toNat ((Bf L).drop (takeN (Bf L)).2.1.toNat)with|none=>((0:Int),([]:List Bs))|some l=>((q:Int),l))=_
 rw[e2]
 show(if (0:Int)≠0\/(8:Int)<(L.length:Int)then _ else _:Int×List Bs)=_
 rw[if_neg (by omega)]
 show(match FA (L.length:Int).toNat ((Bf L).drop ((A7 L.length).length:Int).toNat)with|none=>((0:Int),([]:List Bs))|some l=>((q:Int),l))=_
 rw[show(L.length:Int).toNat=L.length by omega,show((A7 L.length).length:Int).toNat=(A7 L.length).length by omega]
 unfold Bf
 rw[List.drop_left]
 have:=MD (L:=L) [] (Mt hB)
 rw[List.append_nil]at this
 rw[this]
theorem Li {a b:List UInt8} (ha:a.length<=9223372036854775807) (hb:b.length<=9223372036854775807) (h:B7 a=B7 b):a=b:=by
 have e1:=C9 (l:=a) (more:=[]) ha
 have e2:=C9 (l:=b) (more:=[]) hb
 rw[h,e2]at e1
 exact(Prod.mk.inj e1).1.symm
/--what the program reads is what the document reads -/
theorem YK {s x:List UInt8} {n:Nat} (hs:s.length<=1000000) (e:CV s=(x,(n:Int),0)):Ei s=if (Du (Fa x).1 (Fa x).2).1=s.take n then ((Fa x).1,(Fa x).2,(n:Int),0)else (0,[],0,10):=by
 obtain⟨more,hm⟩:=Lz e
 have hx:x.length<=s.length:=by rw[hm,List.length_append,Dm];omega
 have hn:n=(B7 x).length:=by
  have:=C9 (l:=x) (more:=more) (by omega)
  rw[<-hm,e]at this
  have:=(Prod.mk.inj (Prod.mk.inj this).2).1
  omega
 have ht:s.take n=B7 x:=by rw[hm,hn,List.take_left]
 have hp:0<(B7 x).length:=by rw[Dm];omega
 rw[ht]
 by_cases hb:(Du (Fa x).1 (Fa x).2).1=B7 x
 ·rw[if_pos hb]
  have ho:Eg (Fa x).1 (Fa x).2=true:=by
   cases ho:Eg (Fa x).1 (Fa x).2 with
   |true=>rfl
   |false=>
    unfold Du at hb;rw[ho]at hb
    have:=congrArg List.length hb
    simp at this;omega
  have hb2:Jq (Fa x).1 (Fa x).2=B7 x:=by rw[<-hb];unfold Du;rw[ho];rfl
  obtain⟨h0,h1,h2⟩:=E5.1 ho
  obtain⟨q,hq⟩:∃ q:Nat,(Fa x).1=(q:Int):=⟨(Fa x).1.toNat,by omega⟩
  rw[hq]at ho hb2⊢
  rw[hm,hn,<-hb2]
  exact LY ho more
 ·rw[if_neg hb]
  rcases Bi x with(e1|e1)|⟨q,k,e1,q1,k1,k2,k3⟩
  ·exact Lx e (by rw[e1];simp)
  ·exact Lx e (by rw[e1];simp)
  ·rw[Nq e e1]
   cases htr:Br (x.drop k)with
   |none=>rfl
   |some l=>
    show(if (Du q l).2=0/\(Du q l).1=s.take n then _ else _)=_
    refine if_neg fun⟨b1,b2⟩=>?_
    obtain⟨c1,c2⟩:=V7 b1
    rw[ht,c2]at b2
    obtain⟨hB,h1,h2⟩:=E5.1 c1
    have hrl:=D4 hB
    have ln:=BO (n:=q) (by omega)
    have hxe:A7 (q:Int).toNat++Bf l=x:=Li (by rw[List.length_append,show(q:Int).toNat=q by omega];omega) (by omega) b2
    rw[show(q:Int).toNat=q by omega]at hxe
    rw[<-hxe,WM c1]at hb
    refine hb ?_
    show(Du q l).1=_
    rw[c2,hxe];exact b2
end Go.Proofs.Ytmlcddeikgechaa
set_option maxRecDepth 1000000
namespace Go.Proofs.Ytmlcddeikgechaa
open Go Go.Ev
abbrev gP:CC:=(CC.seq (CC.region [(wB 17 (AA (tm 1))),(wB 18 (BH (tm 17))),(wB 4 (AA (tm 18))),(wB 5 (AA (O.c V.x0)))]) CC.ret)
abbrev lq:CC:=(CC.seq (CC.region [(wB 8 (AA (tm 0))),(wB 9 (AA (tm 0))),(wB 10 (Be (tm 9))),(wB 11 (AG 1 (tm 10))),(wB 12 (Aa (tm 11))),(wB 13 (AA (tm 1))),(wB 14 (E4 5 (tm 12) (tm 13))),(wB 15 (Be (tm 8))),(wB 16 (AG 1 (tm 15))),(CO.mk G.none D.none Bool.true (CR.mk (Aq 1 (tm 16) (tm 14))))]) gP)
abbrev sZ:CC:=(CC.seq (CC.region [(wB 6 (AA (tm 0))),(wB 7 (AW 54 [(tm 6)]))]) lq)
abbrev yf:CC:=(CC.seq (CC.region [(wB 4 (AA (oN 0))),(wB 5 (AA (O.c V.x0)))]) sZ)
theorem xi:AY Try.prog 48=⟨19,yf,[(Rs.tmp (AV 4)),(Rs.tmp (AV 5))]⟩:=by kernel_rfl
abbrev ja:CC:=(CC.seq (CC.Bg [(uB 3 (AA (tm 0))),(uB 4 (Be (tm 3))),(uB 5 (AG 1 (tm 4))),(uB 6 (Aa (tm 5))),(uB 7 (Ew (tm 6))),(uB 8 (AA (tm 0))),(uB 9 (Be (tm 8))),(uB 10 (AG 1 (tm 9))),(uB 11 (Aa (tm 10))),(uB 12 (CG (tm 11))),(wB 13 (FG 5 (tm 7) (tm 12))),(uB 2 (AA (tm 13)))] (some ([4,10],[(1,[0]),(3,[0]),(6,[0,5]),(8,[0,5])]))) CC.ret)
abbrev xH:CC:=(CC.seq (CC.region [(wB 2 (AA (O.c (V.s 0 0))))]) ja)
theorem wX:AY Try.prog 50=⟨14,xH,[(Rs.tmp (AV 2))]⟩:=by kernel_rfl
abbrev rU:CC:=(CC.region [(wB 7 (AA (tm 0))),(wB 8 (AA (tm 0))),(wB 9 (KS (tm 8))),(wB 10 (AA (tm 9))),(wB 11 (KT 77 2 (tm 10))),(wB 12 (Be (tm 7))),(wB 13 (AG 0 (tm 12))),(CO.mk G.none D.none Bool.true (CR.mk (Aq 1 (tm 13) (tm 11))))])
abbrev nY:CC:=(CC.cond (tm 19) CC.bad CC.skip)
abbrev tO:CC:=(CC.seq (CC.region [(wB 14 (AA (tm 0))),(wB 15 (Be (tm 14))),(wB 16 (AG 0 (tm 15))),(wB 17 (Aa (tm 16))),(wB 18 (AA (tm 0))),(wB 19 (F6 Bool.true (tm 17) (tm 18)))]) nY)
abbrev rJ:CC:=(CC.cond (tm 6) rU tO)
abbrev yL:CC:=(CC.seq (CC.region [(wB 2 (AA (tm 0))),(wB 3 (Be (tm 2))),(wB 4 (AG 0 (tm 3))),(wB 5 (Aa (tm 4))),(wB 6 (F6 Bool.false (tm 5) (O.c V.p0)))]) rJ)
theorem w9:AY Try.prog 54=⟨20,yL,[]⟩:=by kernel_rfl
end Go.Proofs.Ytmlcddeikgechaa
set_option maxRecDepth 100000
set_option maxHeartbeats 8000000
namespace Go.Proofs.Ytmlcddeikgechaa
open Go Go.Ev
section
variable {h:H} {lo:Nat} {id:B} {U:B->Prop} {a:List UInt8}
theorem Mw (s:Sb h lo 77 5 id U a):BZ Try.prog 54 [.p id 0 0 2] h fun y h'=>Sb h' lo 77 5 id U a/\AZ U h h':=by
 obtain⟨⟨adr,w,o,ha,b,hw,hn⟩,hself,hlo⟩:=s
 refine BP w9 (by intro hb;cases hb) (by simp) (by simp) fun Q hQ=>?_
 simp only[Ay,Nat.reduceAdd]
 have or:=o.own.row
 rcases ha with rfl|rfl
 ·repeat' (first
   |refine St.h ?_
   |simp(disch:=first|omega|(simp only[AJ];omega))only[AK,↓AB,↓reduceIte,seval,or.l1,Us,Na,Nb,OG,N7,gI,dJ,o.pu,o.up]
   |(with_reducible (first|apply AD|apply AE))<;>(intro hc;(try simp only[AR]at hc);(try simp only[hc]);(try simp only[AQ]at hc);try omega))
  refine ST.Vy (y:=.p id 0 0 2) o rfl rfl (by omega) (by omega) fun h' o' s'=>?_
  repeat' (first
   |refine St.h ?_
   |simp(disch:=first|omega|(simp only[AJ];omega))only[AK,↓AB,↓reduceIte,seval]
   |(with_reducible (first|apply AD|apply AE))<;>(intro hc;(try simp only[AR]at hc);(try simp only[hc]);(try simp only[AQ]at hc);try omega))
  subst hQ
  exact⟨⟨⟨.p id 0 0 2,w,o',.inr rfl,b.stay s' (fun i hi e=>hn (by rw[<-e];exact hi)),hw,hn⟩,hself,fun i hi=>⟨(hlo i hi).1,Nat.lt_of_lt_of_le (hlo i hi).2 s'.next⟩⟩,s'.mono fun i _ hi=>by rw[hi];exact hself⟩
 ·repeat' (first
   |refine St.h ?_
   |simp(disch:=first|omega|(simp only[AJ];omega))only[AK,↓AB,↓reduceIte,seval,or.l1,Us,Na,Nb,OG,N7]
   |(with_reducible (first|apply AD|apply AE))<;>(intro hc;(try simp only[AR]at hc);(try simp only[hc]);(try simp only[AQ]at hc);try omega))
  subst hQ
  exact⟨⟨⟨.p id 0 0 2,w,o,.inr rfl,b,hw,hn⟩,hself,hlo⟩,AZ.refl _ _⟩
theorem Wz {h h1 h2 h3:H} {w w' adr:V} {c:List UInt8} (hself:U id) (hlo:∀ i,U i->lo<=B.val i/\B.val i<B.val h1.next) (hw:∀ i,BT w i->U i) (hn:¬BT w id) (hidlt:B.val id<B.val h1.next)
 (ha:adr=.p0\/adr=.p id 0 0 2) (st1:AZ U h h1) (b2:EY h2 5 1 w' ((a++c).map bv)) (st2:AZ (BT w) h1 h2) (hw2:∀ i,BT w' i->BT w i\/B.val h1.next<=B.val i) (o3:FZ h3 id 77 [adr,w']) (st3:AZ (fun i=>i=id) h2 h3):
 ∃ U',Sb h3 lo 77 5 id U' (a++c)/\AZ U h h3/\∀ i,U' i->U i\/B.val h.next<=B.val i:=by
 have hn2:¬BT w' id:=fun e=>by
  rcases hw2 _ e with h7|h7
  ·exact hn h7
  ·omega
 have hlo0:=(hlo _ hself).1
 refine⟨fun i=>U i\/BT w' i,⟨⟨adr,w',o3,ha,b2.stay st3 (fun i hi e=>hn2 (by rw[<-e];exact hi)),fun i hi=>.inr hi,hn2⟩,.inl hself,?_⟩,?_,?_⟩
 ·have n2:=st2.next
  have n3:=st3.next
  rintro i (hi|hi)
  ·have:=hlo i hi;omega
  ·have h8:=b2.own hi
   rcases hw2 _ hi with h7|h7
   ·have:=hlo i (hw i h7);omega
   ·omega
 ·exact(st1.trans (st2.mono fun i _ hi=>hw i hi)).trans (st3.mono fun i _ hi=>by rw[hi];exact hself)
 ·have n1:=st1.next
  rintro i (hi|hi)
  ·exact .inl hi
  ·rcases hw2 _ hi with h7|h7
   ·exact .inl (hw i h7)
   ·exact .inr (by omega)
theorem FC {c:List UInt8} (s:Sb h lo 77 5 id U a) (hl:a.length+c.length<=1048576) (hf:B.val h.floor<=B.val h.next):BZ Try.prog 48 [.p id 0 0 2,sv c] h fun y h'=>∃ U',Sb h' lo 77 5 id U' (a++c)/\AZ U h h'/\∀ i,U' i->U i\/B.val h.next<=B.val i:=by
 refine BP xi (by intro hb;cases hb) (by simp) (by simp) fun Q hQ=>?_
 simp only[Ay,Nat.reduceAdd]
 repeat' (first
  |refine St.h ?_
  |simp(disch:=first|omega|(simp only[AJ];omega))only[AK,↓AB,↓reduceIte,seval]
  |(with_reducible (first|apply AD|apply AE))<;>(intro hc;(try simp only[AR]at hc);(try simp only[hc]);(try simp only[AQ]at hc);try omega))
 refine CL.mk (Mw s) ?_
 rintro _ h1 ⟨⟨⟨adr,w,o,ha,b,hw,hn⟩,hself,hlo⟩,st1⟩
 have or:=o.own.row
 repeat' (first
  |refine St.h ?_
  |simp(disch:=first|omega|(simp only[AJ];omega))only[AK,↓AB,↓reduceIte,seval,or.l1]
  |(with_reducible (first|apply AD|apply AE))<;>(intro hc;(try simp only[AR]at hc);(try simp only[hc]);(try simp only[AQ]at hc);try omega))
 refine AS.buf b (st1.fl hf) hl fun w' h2 b2 st2 hw2 tp=>?_
 have o2:=o.stay st2 hn
 obtain⟨c1,c2,_⟩:=Qx b2
 repeat' (first
  |refine St.h ?_
  |simp(disch:=first|omega|(simp only[AJ];omega))only[AK,↓AB,↓reduceIte,seval]
  |(with_reducible (first|apply AD|apply AE))<;>(intro hc;(try simp only[AR]at hc);(try simp only[hc]);(try simp only[AQ]at hc);try omega))
 refine ST.Vy o2 c1 c2 (by omega) (by omega) fun h3 o3 st3=>?_
 repeat' (first
  |refine St.h ?_
  |simp(disch:=first|omega|(simp only[AJ];omega))only[AK,↓AB,↓reduceIte,seval]
  |(with_reducible (first|apply AD|apply AE))<;>(intro hc;(try simp only[AR]at hc);(try simp only[hc]);(try simp only[AQ]at hc);try omega))
 subst hQ
 exact Wz hself hlo hw hn o.lt ha st1 b2 st2 hw2 o3 st3
theorem Rv (s:Sb h lo 77 5 id U a) (hl:a.length<=1048576):BZ Try.prog 50 [.p id 0 0 2] h fun y h'=>y=sv a/\AZ U h h':=by
 refine BP wX (by intro hb;cases hb) (by simp) (by simp) fun Q hQ=>?_
 simp only[Ay,Nat.reduceAdd]
 obtain⟨⟨adr,w,o,ha,b,hw,hn⟩,hself,hlo⟩:=s
 have or:=o.own.row
 have hln:=fun g N=>b.tY.ln (P:=Try.prog) (h:=g) (N:=N)
 rw[List.length_map]at hln
 obtain⟨pv,hpv1,hpv2⟩:∃ pv:V,(∀ g N,H1 Try.prog T5 w g N=N.go Try.prog pv g)/\∀ k:V->Bool,(vL w (fun _=>k .p0) fun id g off len fin _=>k (.p id g off fin))=k pv:=by
  rcases b with⟨rfl,_⟩|⟨i,g,n,Af,rfl,b1,_⟩
  ·exact⟨.p0,fun g N=>Ai fun k=>rfl,fun k=>rfl⟩
  ·refine⟨.p i g 0 _,fun g N=>Ai fun k=>?_,fun k=>rfl⟩
   have:Nat.ble 1 n=true:=by rw[Nat.ble_eq];exact b1
   show(Ap (Nat.ble 1 n) fun _=>k (.p i _ 0 _))=_
   rw[this,AF]
 repeat' (first
  |refine St.h ?_
  |simp(disch:=first|omega|(simp only[AJ];omega))only[AK,↓AB,↓reduceIte,seval,or.l1,S2,hpv1,hln,WB]
  |(with_reducible (first|apply AD|apply AE))<;>(intro hc;(try simp only[AR]at hc);(try simp only[hc]);(try simp only[AQ]at hc);try omega))
 obtain⟨h',e',st'⟩:=W0 b hl (fun _ _ _ _=>false) F.zero (.c pv) (.c (.i .i64 (a.length:Int))) hpv2 rfl
 refine US.of (v:=sv a) (h':=h') (fun k=>?_) ?_
 ·have:=e' k
  simp only[FG,AN]at this
  exact this
 repeat' (first
  |refine St.h ?_
  |simp(disch:=first|omega|(simp only[AJ];omega))only[AK,↓AB,↓reduceIte,seval]
  |(with_reducible (first|apply AD|apply AE))<;>(intro hc;(try simp only[AR]at hc);(try simp only[hc]);(try simp only[AQ]at hc);try omega))
 subst hQ
 exact⟨rfl,st'.mono fun i _ hi=>hw i hi⟩
end
end Go.Proofs.Ytmlcddeikgechaa
namespace Go.Ev
open Go
theorem wA.own {P:Program} {h:H} {N:Nx} {id:B} {el fin:Nat} {xs:List V} {s:List UInt8} {cap:Option Nat} (o:FZ h id el xs) (hne:1<=s.length) (hj:s.length<=fin) (hfit:s.length<2 ^ 37)
 (k:∀ h',FZ h' id el (s.map bv)->AZ (fun i=>i=id) h h'->N.go P (.i .i64 (s.length:Int)) h'):wA P (.l id 0 0 s.length fin cap) (sv s) h N:=by
 obtain⟨Af,a1,a2,a3,a4,aE,a5,a6,a7⟩:=o
 obtain⟨next,floor,heap⟩:=h
 obtain⟨cur,min,sz,cs,bel,fr⟩:=Af
 simp only at a2 a3 a4 aE a7
 subst a2;subst a3;subst a4;subst aE
 have hvl:(s.map bv).length=s.length:=List.length_map _
 obtain⟨tr,t1,t2,t3⟩:=Bv (s.map bv) 0 cs (by omega)
 obtain⟨hp,s1,s2,s3⟩:=Bp id (⟨0,0,sz,tr,bel,0⟩:E0) heap
 have e1:B.Js floor id=true:=by cases floor<;>first|rfl|(show Nat.ble _ _=true;rw[Nat.ble_eq];exact a5)
 have e2:Nat.ble (Nat.add 0 (s.map bv).length) fin=true:=by rw[Nat.ble_eq];show 0+(s.map bv).length<=fin;omega
 have e4:Hl 0 0=true:=rfl
 have e5:Nat.beq 0 0=true:=rfl
 have e6:Nat.ble 0 0=true:=rfl
 have a1':heap.get id=some ⟨0,0,sz,cs,bel,0⟩:=a1
 refine Dc (v:=.i .i64 (s.length:Int)) (h':=⟨next,floor,hp⟩) (fun q=>?_) (k _ ⟨_,s2,rfl,rfl,rfl,rfl,a5,a6,fun i z hz=>by have:=t2 i z hz;rwa [Nat.zero_add]at this⟩ ⟨rfl,Nat.le_refl _,fun i _ hi=>s3 i hi⟩)
 show JG s.length (fun _=>false) (fun _=>HP (sv s) ⟨next,floor,heap⟩ q id 0 0 s.length fin)=_
 obtain⟨m,hm⟩:∃ m,s.length=m+1:=⟨s.length-1,by omega⟩
 have hc:∀ (z:Unit->Bool) (f:Nat->Bool),JG s.length z f=f (m+1):=fun z f=>by rw[hm];rfl
 rw[hc]
 unfold HP
 show K1 s.length (pk s) [] (fun vs=>Ap (Nat.beq s.length s.length) fun _=>store ⟨next,floor,heap⟩ id 0 0 fin vs fun h=>q (.i .i64 (.ofNat s.length)) h)=_
 rw[Ke _ _ _ _ rfl,List.append_nil,Nat.beq_refl,AF]
 simp only[store,B6,a1',Ad,BC,e5,e6,e1,e2,JE,e4,AF]
 rw[t1,s1];rfl
theorem US.own {P:Program} {h:H} {N:Nx} {id:B} {el fin:Nat} {a:List UInt8} (o:FZ h id el (a.map bv)) (hne:1<=a.length) (hj:a.length<=fin) (hl:a.length<=1048576)
 (k:∀ h',AZ (fun i=>i=id) h h'->N.go P (sv a) h'):US P el (.p id 0 0 fin) (.i .i64 (a.length:Int)) h N:=by
 have hrow:Row h id 0 0 (a.map bv):=o.own.row
 obtain⟨Af,a1,a2,a3,a4,aE,a5,a6,a7⟩:=o
 have hld:∀ k,Bz h id 0 0 fin a.length k=k (a.map bv):=fun k=>by
  have:=Cw (n:=(a.map bv).length) (fin:=fin) hrow rfl (by intro h0;have:=congrArg List.length h0;simp at this;subst this;simp at hne) (by rw[List.length_map];omega) k
  rwa [List.length_map]at this
 obtain⟨next,floor,heap⟩:=h
 obtain⟨cur,min,sz,cells,bel,fr⟩:=Af
 simp only at a2 a3 a4 aE a7
 subst a2;subst a3;subst a4;subst aE
 obtain⟨hp,s1,s2,s3⟩:=Bp id (⟨0,0,sz,cells,bel,a.length+2⟩:E0) heap
 have a1':heap.get id=some ⟨0,0,sz,cells,bel,0⟩:=a1
 have g2:Nat.beq bel bel=true:=Nat.beq_refl bel
 have g3:B.Js floor id=true:=by cases floor<;>first|rfl|(show Nat.ble _ _=true;rw[Nat.ble_eq];exact a5)
 have g4:Nat.ble 1 a.length=true:=by rw[Nat.ble_eq];exact hne
 have g5:Nat.ble a.length 1048576=true:=by rw[Nat.ble_eq];exact hl
 have g6:Nat.beq 0 0=true:=rfl
 have g7:Nat.ble 0 0=true:=rfl
 refine US.of (v:=sv a) (h':=⟨next,floor,hp⟩) (fun q=>?_) (k _ ⟨rfl,Nat.le_refl _,fun i _ hi=>s3 i hi⟩)
 simp only[Ct,BR,AF,Bj,KQ]
 unfold KB
 rw[g6,AF,g4,AF,g5,AF]
 simp only[RS,B6,a1',Ad,BC,g7,g2,AF]
 rw[hld,J4]
 have e0:0*256 ^ a.length+pk a=pk a:=by rw[Nat.zero_mul,Nat.zero_add]
 rw[e0]
 simp only[Hg,B6,a1',Ad,BC,g3,AF]
 show fN (Nat.add a.length 2) (fun fr'=>T.GO id ⟨0,0,sz,cells,bel,fr'⟩ heap fun heap=>q (.s a.length (pk a)) ⟨next,floor,heap⟩)=_
 rw[A8]
 exact s1 _
theorem Own.X0 {h:H} {Q:V->H->Prop} {id:B} {a b c:V} {us:List V} (o:Own h id [a,b,c]):RA Q 3 (.p id 0 0 3) us h=Q (one (.a [a,b,c]::us)) h:=o.ra rfl (by omega) (by omega)
end Go.Ev
set_option maxRecDepth 100000
set_option maxHeartbeats 8000000
namespace Go.Proofs.Ytmlcddeikgechaa
open Go Go.Ev
theorem UO {h:H} {v:V} {L:List Bs} (hL:Ws h v L) (hl:L.length<=10000) (hf:B.val h.floor<=B.val h.next):BZ Try.prog 30 [v] h fun y h'=>y=.b (Ho L)/\AZ AM h h':=by
 refine BP wY (by intro hb;cases hb) (by simp) (by simp) fun Q hQ=>?_
 simp only[Ay,Nat.reduceAdd]
 by_cases h8:8<L.length
 ·have d1:((8:Int)<(L.length:Int))=True:=eq_true (by omega)
  repeat' (first
   |refine St.h ?_
   |simp(disch:=first|omega|(simp only[AJ];omega))only[AK,↓AB,↓reduceIte,seval,hL.ln,d1]
   |(with_reducible (first|apply AD|apply AE))<;>(intro hc;(try simp only[AR]at hc);(try simp only[hc]);(try simp only[AQ]at hc);try omega))
  subst hQ
  exact⟨by unfold Ho;rw[decide_eq_false (by omega),Bool.and_false],AZ.refl _ _⟩
 have d1:((8:Int)<(L.length:Int))=False:=eq_false (by omega)
 repeat' (first
  |refine St.h ?_
  |simp(disch:=first|omega|(simp only[AJ];omega))only[AK,↓AB,↓reduceIte,seval,hL.ln,d1]
  |(with_reducible (first|apply AD|apply AE))<;>(intro hc;(try simp only[AR]at hc);(try simp only[hc]);(try simp only[AQ]at hc);try omega))
 refine Ok.lp (fun m t g=>∃ j:Nat,m=L.length-j/\j<=L.length/\AZ AM h g/\Xw L j=true/\get 0 t=v/\get 8 t=v/\get 9 t=.i .i64 (L.length:Int)/\get 10 t=.i .i64 (j:Int)) L.length ?_ ?_
 ·simp(disch:=first|omega|(simp only[AJ];omega))only[AK,↓AB,↓reduceIte,seval]
  refine⟨0,by omega,by omega,AZ.refl _ _,rfl,?_⟩
  repeat' (first|trivial|rfl|refine And.intro ?_ ?_)
 rintro I hI m t g ⟨j,rfl,hj,st,hs,f0,f8,f9,f10⟩
 have hLg:=hL.grow st
 have hfg:=st.fl hf
 by_cases hjl:j<L.length
 case neg=>
  obtain rfl:j=L.length:=by omega
  have d2:((L.length:Int)<(L.length:Int))=False:=eq_false (by omega)
  repeat' (first
   |refine St.h ?_
   |simp(disch:=first|omega|(simp only[AJ];omega))only[AK,↓AB,↓reduceIte,seval,f0,f8,f9,f10,d2]
   |(with_reducible (first|apply AD|apply AE))<;>(intro hc;(try simp only[AR]at hc);(try simp only[hc]);(try simp only[AQ]at hc);try omega))
  subst hQ
  exact⟨by unfold Ho;rw[hs,decide_eq_true (by omega)];rfl,st⟩
 have d2:((j:Int)<(L.length:Int))=True:=eq_true (by omega)
 repeat' (first
  |refine St.h ?_
  |simp(disch:=first|omega|(simp only[AJ];omega))only[AK,↓AB,↓reduceIte,seval,f0,f8,f9,f10,d2,hLg.ix,hLg.la,Int.toNat_natCast]
  |(with_reducible (first|apply AD|apply AE))<;>(intro hc;(try simp only[AR]at hc);(try simp only[hc]);(try simp only[AQ]at hc);try omega))
 refine AL.own (by simp) hfg fun g1 t1 _ o1=>?_
 have hf1:=t1.fl hfg
 repeat' (first
  |refine St.h ?_
  |simp(disch:=first|omega|(simp only[AJ];omega))only[AK,↓AB,↓reduceIte,seval,f0,f8,f9,f10]
  |(with_reducible (first|apply AD|apply AE))<;>(intro hc;(try simp only[AR]at hc);(try simp only[hc]);(try simp only[AQ]at hc);try omega))
 refine ST.all o1 rfl rfl (by simp) (by simp) fun g2 o2 t2=>?_
 have hf2:=t2.fl hf1
 have tt:AZ AM g g2:=t1.B3 t2 fun q hq=>by rw[hq];exact Nat.le_refl _
 have r2:=o2.row
 repeat' (first
  |refine St.h ?_
  |simp(disch:=first|omega|(simp only[AJ];omega))only[AK,↓AB,↓reduceIte,seval,f0,f8,f9,f10,r2.ln]
  |(with_reducible (first|apply AD|apply AE))<;>(intro hc;(try simp only[AR]at hc);(try simp only[hc]);(try simp only[AQ]at hc);try omega))
 refine CL.stay (PN hf2) fun g3 t3=>?_
 have t4:=tt.trans t3
 have L3:=hLg.grow t4
 have o3:=o2.stay t3 fun h=>h
 have r3:=o3.row
 have st3:=st.trans t4
 cases hw:Oh (L.getD j default).key (L.getD j default).del (L.getD j default).val with
 |false=>
  have hn:Ho L=false:=NH hjl (by unfold NK Pd;rw[hw];rfl)
  repeat' (first
   |refine St.h ?_
   |simp(disch:=first|omega|(simp only[AJ];omega))only[AK,↓AB,↓reduceIte,seval,f0,f8,f9,f10]
   |(with_reducible (first|apply AD|apply AE))<;>(intro hc;(try simp only[AR]at hc);(try simp only[hc]);(try simp only[AQ]at hc);try omega))
  subst hQ
  exact⟨by rw[hn],st3⟩
 |true=>
 by_cases h0:j=0
 ·have hu:NK L j=true:=by unfold NK Pd;rw[hw,decide_eq_true h0];rfl
  have hz:((0:Int)<(j:Int))=False:=eq_false (by omega)
  repeat' (first
   |refine St.h ?_
   |simp(disch:=first|omega|(simp only[AJ];omega))only[AK,↓AB,↓reduceIte,seval,f0,f8,f9,f10,hz]
   |(with_reducible (first|apply AD|apply AE))<;>(intro hc;(try simp only[AR]at hc);(try simp only[hc]);(try simp only[AQ]at hc);try omega))
  refine Bq hI (L.length-(j+1)) (by omega) ⟨j+1,rfl,by omega,st3,by rw[II,hs,hu];rfl,by simp(disch:=first|omega|(simp only[AJ];omega))only[AK,↓AB,↓reduceIte,seval,f0],by simp(disch:=first|omega|(simp only[AJ];omega))only[AK,↓AB,↓reduceIte,seval,f8],by simp(disch:=first|omega|(simp only[AJ];omega))only[AK,↓AB,↓reduceIte,seval,f9],by simp(disch:=first|omega|(simp only[AJ];omega))only[AK,↓AB,↓reduceIte,seval,f10];rfl⟩
 ·have ek:((j:Int)-1).toNat=j-1:=by omega
  have hz:((0:Int)<(j:Int))=True:=eq_true (by omega)
  have hu:NK L j=Op.bytesLess (L.getD (j-1) default).key (L.getD j default).key:=by unfold NK Pd;rw[hw,decide_eq_false h0];rfl
  cases hk:Op.bytesLess (L.getD (j-1) default).key (L.getD j default).key with
  |false=>
   have hn:Ho L=false:=NH hjl (by rw[hu,hk])
   repeat' (first
    |refine St.h ?_
    |simp(disch:=first|omega|(simp only[AJ];omega))only[AK,↓AB,↓reduceIte,seval,f0,f8,f9,f10,hz,ek,L3.ix,L3.l0,r3.l1,hk]
    |(with_reducible (first|apply AD|apply AE))<;>(intro hc;(try simp only[AR]at hc);(try simp only[hc]);(try simp only[AQ]at hc);try omega))
   subst hQ
   exact⟨by rw[hn],st3⟩
  |true=>
   repeat' (first
    |refine St.h ?_
    |simp(disch:=first|omega|(simp only[AJ];omega))only[AK,↓AB,↓reduceIte,seval,f0,f8,f9,f10,hz,ek,L3.ix,L3.l0,r3.l1,hk]
    |(with_reducible (first|apply AD|apply AE))<;>(intro hc;(try simp only[AR]at hc);(try simp only[hc]);(try simp only[AQ]at hc);try omega))
   refine Bq hI (L.length-(j+1)) (by omega) ⟨j+1,rfl,by omega,st3,by rw[II,hs,hu,hk];rfl,by simp(disch:=first|omega|(simp only[AJ];omega))only[AK,↓AB,↓reduceIte,seval,f0],by simp(disch:=first|omega|(simp only[AJ];omega))only[AK,↓AB,↓reduceIte,seval,f8],by simp(disch:=first|omega|(simp only[AJ];omega))only[AK,↓AB,↓reduceIte,seval,f9],by simp(disch:=first|omega|(simp only[AJ];omega))only[AK,↓AB,↓reduceIte,seval,f10];rfl⟩
theorem XN {h:H} {w:Bs} (hk:w.key.length<=1000) (hv:w.val.length<=1000) (hf:B.val h.floor<=B.val h.next):BZ Try.prog 49 [.a [sv w.key,.b w.del,sv w.val]] h fun y h'=>y=sv (CH w)/\AZ AM h h':=by
 have l1:=E3 w.key (by omega)
 have l2:=E3 w.val (by omega)
 refine BP yC (by intro hb;cases hb) (by simp) (by simp) fun Q hQ=>?_
 simp only[Ay,Nat.reduceAdd]
 repeat' (first
  |refine St.h ?_
  |simp(disch:=first|omega|(simp only[AJ];omega))only[AK,↓AB,↓reduceIte,seval]
  |(with_reducible (first|apply AD|apply AE))<;>(intro hc;(try simp only[AR]at hc);(try simp only[hc]);(try simp only[AQ]at hc);try omega))
 refine AL.own (by simp) hf fun h1 s1 n1 o1=>?_
 have hf1:=s1.fl hf
 cases hd:w.del with
 |true=>
  have hb:CH w=Al w.key++[1]:=by unfold CH;rw[hd];rfl
  repeat' (first
   |refine St.h ?_
   |simp(disch:=first|omega|(simp only[AJ];omega))only[AK,↓AB,↓reduceIte,seval,o1.row.l1,hd]
   |(with_reducible (first|apply AD|apply AE))<;>(intro hc;(try simp only[AR]at hc);(try simp only[hc]);(try simp only[AQ]at hc);try omega))
  refine CL.IV (Mq (by omega) (IT _)) fun h3 s3=>?_
  have hf3:=s3.fl hf1
  repeat' (first
   |refine St.h ?_
   |simp(disch:=first|omega|(simp only[AJ];omega))only[AK,↓AB,↓reduceIte,seval]
   |(with_reducible (first|apply AD|apply AE))<;>(intro hc;(try simp only[AR]at hc);(try simp only[hc]);(try simp only[AQ]at hc);try omega))
  refine AL.Wr (bs:=[1]) rfl (by simp) rfl rfl (by simp) hf3 fun h5 u5 s5=>?_
  repeat' (first
   |refine St.h ?_
   |simp(disch:=first|omega|(simp only[AJ];omega))only[AK,↓AB,↓reduceIte,seval]
   |(with_reducible (first|apply AD|apply AE))<;>(intro hc;(try simp only[AR]at hc);(try simp only[hc]);(try simp only[AQ]at hc);try omega))
  subst hQ
  exact⟨by rw[hb],(s1.trans s3).trans s5⟩
 |false=>
  have hb:CH w=Al w.key++0::Al w.val:=by unfold CH;rw[hd];rfl
  repeat' (first
   |refine St.h ?_
   |simp(disch:=first|omega|(simp only[AJ];omega))only[AK,↓AB,↓reduceIte,seval,o1.row.l1,hd]
   |(with_reducible (first|apply AD|apply AE))<;>(intro hc;(try simp only[AR]at hc);(try simp only[hc]);(try simp only[AQ]at hc);try omega))
  refine CL.IV (Mq (by omega) (IT _)) fun h3 s3=>?_
  have o3:=o1.stay s3 fun h=>h
  have hf3:=s3.fl hf1
  repeat' (first
   |refine St.h ?_
   |simp(disch:=first|omega|(simp only[AJ];omega))only[AK,↓AB,↓reduceIte,seval]
   |(with_reducible (first|apply AD|apply AE))<;>(intro hc;(try simp only[AR]at hc);(try simp only[hc]);(try simp only[AQ]at hc);try omega))
  refine AL.Wr (bs:=[0]) rfl (by simp) rfl rfl (by simp) hf3 fun h5 u5 s5=>?_
  have o5:=o3.stay s5 fun h=>h
  have hf5:=s5.fl hf3
  repeat' (first
   |refine St.h ?_
   |simp(disch:=first|omega|(simp only[AJ];omega))only[AK,↓AB,↓reduceIte,seval,o5.row.l1]
   |(with_reducible (first|apply AD|apply AE))<;>(intro hc;(try simp only[AR]at hc);(try simp only[hc]);(try simp only[AQ]at hc);try omega))
  refine CL.IV (Mq (by omega) (IT _)) fun h6 s6=>?_
  repeat' (first
   |refine St.h ?_
   |simp(disch:=first|omega|(simp only[AJ];omega))only[AK,↓AB,↓reduceIte,seval]
   |(with_reducible (first|apply AD|apply AE))<;>(intro hc;(try simp only[AR]at hc);(try simp only[hc]);(try simp only[AQ]at hc);try omega))
  subst hQ
  exact⟨by rw[hb];simp,((s1.trans s3).trans s5).trans s6⟩
theorem L8 {h:H} {v:V} {seq:Int} {L:List Bs} (hL:Ws h v L) (hl:L.length<=10000) (hs: -9223372036854775808<=seq) (hs2:seq<=9223372036854775807) (hf:B.val h.floor<=B.val h.next):BZ Try.prog 36 [.i .i64 seq,v] h fun y h'=>y=.tu [sv (Du seq L).1,.i .i64 (Du seq L).2]/\AZ AM h h':=by
 refine BP yE (by intro hb;cases hb) (by simp) (by simp) fun Q hQ=>?_
 simp only[Ay,Nat.reduceAdd]
 repeat' (first
  |refine St.h ?_
  |simp(disch:=first|omega|(simp only[AJ];omega))only[AK,↓AB,↓reduceIte,seval]
  |(with_reducible (first|apply AD|apply AE))<;>(intro hc;(try simp only[AR]at hc);(try simp only[hc]);(try simp only[AQ]at hc);try omega))
 refine CL.stay (UO hL hl hf) fun h1 s1=>?_
 have hf1:=s1.fl hf
 have hL1:=hL.grow s1
 have hno:Eg seq L=false->Du seq L=([],10):=fun e=>by unfold Du;rw[e];rfl
 cases hB:Ho L with
 |false=>
  have e:=hno (by unfold Eg;rw[hB];rfl)
  repeat' (first
   |refine St.h ?_
   |simp(disch:=first|omega|(simp only[AJ];omega))only[AK,↓AB,↓reduceIte,seval]
   |(with_reducible (first|apply AD|apply AE))<;>(intro hc;(try simp only[AR]at hc);(try simp only[hc]);(try simp only[AQ]at hc);try omega))
  subst hQ
  exact⟨by rw[e],s1⟩
 |true=>
 by_cases q1:seq<1
 ·have e:=hno (by unfold Eg;rw[hB,decide_eq_false (by omega)];rfl)
  repeat' (first
   |refine St.h ?_
   |simp(disch:=first|omega|(simp only[AJ];omega))only[AK,↓AB,↓reduceIte,seval]
   |(with_reducible (first|apply AD|apply AE))<;>(intro hc;(try simp only[AR]at hc);(try simp only[hc]);(try simp only[AQ]at hc);try omega))
  subst hQ
  exact⟨by rw[e],s1⟩
 by_cases q2:1000000<seq
 ·have e:=hno (by unfold Eg;rw[hB,decide_eq_false (by omega)];rfl)
  repeat' (first
   |refine St.h ?_
   |simp(disch:=first|omega|(simp only[AJ];omega))only[AK,↓AB,↓reduceIte,seval]
   |(with_reducible (first|apply AD|apply AE))<;>(intro hc;(try simp only[AR]at hc);(try simp only[hc]);(try simp only[AQ]at hc);try omega))
  subst hQ
  exact⟨by rw[e],s1⟩
 have e:Du seq L=(Jq seq L,0):=by unfold Du Eg;rw[hB,decide_eq_true (by omega)];rfl
 have ln:=BO (n:=seq.toNat) (by omega)
 have ln2:=BO (n:=L.length) (by omega)
 have lr:=D4 hB
 have en:((L.length:Int)).toNat=L.length:=by omega
 repeat' (first
  |refine St.h ?_
  |simp(disch:=first|omega|(simp only[AJ];omega))only[AK,↓AB,↓reduceIte,seval]
  |(with_reducible (first|apply AD|apply AE))<;>(intro hc;(try simp only[AR]at hc);(try simp only[hc]);(try simp only[AQ]at hc);try omega))
 refine AL.Vy (by simp) hf1 fun h2 s2 n2 o2=>?_
 have hf2:=s2.fl hf1
 have sb:Sb h2 (B.val h1.next) 77 5 h1.next (fun i=>i=h1.next) []:=
  ⟨⟨.p0,.l0,o2,.inl rfl,EY.nil _ _ _,fun i hi=>absurd hi (by rintro⟨_,_,_,_,_,e⟩;cases e),by rintro⟨_,_,_,_,_,e⟩;cases e⟩,rfl,fun i hi=>by rw[hi];exact⟨Nat.le_refl _,by omega⟩⟩
 repeat' (first
  |refine St.h ?_
  |simp(disch:=first|omega|(simp only[AJ];omega))only[AK,↓AB,↓reduceIte,seval]
  |(with_reducible (first|apply AD|apply AE))<;>(intro hc;(try simp only[AR]at hc);(try simp only[hc]);(try simp only[AQ]at hc);try omega))
 refine CL.stay (Ed (by omega) hf2) fun h3 s3=>?_
 have hf3:=s3.fl hf2
 have sb3:=sb.stay s3 fun _ _ h=>h
 have a3:=s2.trans s3
 repeat' (first
  |refine St.h ?_
  |simp(disch:=first|omega|(simp only[AJ];omega))only[AK,↓AB,↓reduceIte,seval]
  |(with_reducible (first|apply AD|apply AE))<;>(intro hc;(try simp only[AR]at hc);(try simp only[hc]);(try simp only[AQ]at hc);try omega))
 refine CL.mk (FC sb3 (by simp;omega) hf3) ?_
 rintro _ h4 ⟨U4,sb4,s4,hU4⟩
 have hf4:=s4.fl hf3
 have a4:=a3.B3 s4 fun q hq=>(sb3.lo q hq).1
 have hL4:=hL1.grow a4
 repeat' (first
  |refine St.h ?_
  |simp(disch:=first|omega|(simp only[AJ];omega))only[AK,↓AB,↓reduceIte,seval,hL4.ln]
  |(with_reducible (first|apply AD|apply AE))<;>(intro hc;(try simp only[AR]at hc);(try simp only[hc]);(try simp only[AQ]at hc);try omega))
 refine CL.stay (Ed (by omega) hf4) fun h5 s5=>?_
 have hf5:=s5.fl hf4
 have sb5:=sb4.stay s5 fun _ _ h=>h
 have a5:=a4.trans s5
 repeat' (first
  |refine St.h ?_
  |simp(disch:=first|omega|(simp only[AJ];omega))only[AK,↓AB,↓reduceIte,seval,en]
  |(with_reducible (first|apply AD|apply AE))<;>(intro hc;(try simp only[AR]at hc);(try simp only[hc]);(try simp only[AQ]at hc);try omega))
 refine CL.mk (FC sb5 (by simp;omega) hf5) ?_
 rintro _ h6 ⟨U6,sb6,s6,hU6⟩
 have hf6:=s6.fl hf5
 have a6:=a5.B3 s6 fun q hq=>(sb5.lo q hq).1
 have hL6:=hL1.grow a6
 repeat' (first
  |refine St.h ?_
  |simp(disch:=first|omega|(simp only[AJ];omega))only[AK,↓AB,↓reduceIte,seval,hL6.ln]
  |(with_reducible (first|apply AD|apply AE))<;>(intro hc;(try simp only[AR]at hc);(try simp only[hc]);(try simp only[AQ]at hc);try omega))
 refine Ok.lp (fun m t g=>∃ (j:Nat) (U:B->Prop),m=L.length-j/\j<=L.length/\AZ AM h1 g/\Sb g (B.val h1.next) 77 5 h1.next U (A7 seq.toNat++(A7 L.length++(L.take j).flatMap CH))/\get 6 t=.p h1.next 0 0 2/\get 27 t=v/\get 28 t=.i .i64 (L.length:Int)/\get 29 t=.i .i64 (j:Int)) L.length ?_ ?_
 ·simp(disch:=first|omega|(simp only[AJ];omega))only[AK,↓AB,↓reduceIte,seval]
  refine⟨0,U6,by omega,by omega,a6,by simpa using sb6,?_⟩
  repeat' (first|trivial|rfl|refine And.intro ?_ ?_)
 rintro I hI m t g ⟨j,U,rfl,hj,st,sbg,f6,f27,f28,f29⟩
 have hfg:=st.fl hf1
 have hLg:=hL1.grow st
 have hrl:=Ix hB hj
 by_cases hjl:j<L.length
 case neg=>
  obtain rfl:j=L.length:=by omega
  have d1:((L.length:Int)<(L.length:Int))=False:=eq_false (by omega)
  rw[List.take_length]at sbg
  repeat' (first
   |refine St.h ?_
   |simp(disch:=first|omega|(simp only[AJ];omega))only[AK,↓AB,↓reduceIte,seval,f6,f27,f28,f29,d1]
   |(with_reducible (first|apply AD|apply AE))<;>(intro hc;(try simp only[AR]at hc);(try simp only[hc]);(try simp only[AQ]at hc);try omega))
  refine CL.mk (Rv sbg (by have:(A7 L.length++L.flatMap CH).length<=500:=lr;rw[List.length_append];omega)) ?_
  rintro _ g2 ⟨rfl,t2⟩
  have st2:=st.B3 t2 fun i hi=>(sbg.lo i hi).1
  repeat' (first
   |refine St.h ?_
   |simp(disch:=first|omega|(simp only[AJ];omega))only[AK,↓AB,↓reduceIte,seval]
   |(with_reducible (first|apply AD|apply AE))<;>(intro hc;(try simp only[AR]at hc);(try simp only[hc]);(try simp only[AQ]at hc);try omega))
  refine CL.stay (J9 (by have:(A7 L.length++L.flatMap CH).length<=500:=lr;rw[List.length_append];omega) (st2.fl hf1)) fun g3 t3=>?_
  repeat' (first
   |refine St.h ?_
   |simp(disch:=first|omega|(simp only[AJ];omega))only[AK,↓AB,↓reduceIte,seval]
   |(with_reducible (first|apply AD|apply AE))<;>(intro hc;(try simp only[AR]at hc);(try simp only[hc]);(try simp only[AQ]at hc);try omega))
  subst hQ
  exact⟨by rw[e];rfl,s1.trans (st2.trans t3)⟩
 have d1:((j:Int)<(L.length:Int))=True:=eq_true (by omega)
 have hr:=Iu (LG (LH hB hjl))
 have h1l:=OC (LG (LH hB hjl))
 have hcat:=KA hjl
 repeat' (first
  |refine St.h ?_
  |simp(disch:=first|omega|(simp only[AJ];omega))only[AK,↓AB,↓reduceIte,seval,f6,f27,f28,f29,d1,hLg.ix,hLg.la,Int.toNat_natCast]
  |(with_reducible (first|apply AD|apply AE))<;>(intro hc;(try simp only[AR]at hc);(try simp only[hc]);(try simp only[AQ]at hc);try omega))
 refine AL.own (by simp) hfg fun g1 t1 _ o1=>?_
 have hf1':=t1.fl hfg
 repeat' (first
  |refine St.h ?_
  |simp(disch:=first|omega|(simp only[AJ];omega))only[AK,↓AB,↓reduceIte,seval,f6,f27,f28,f29]
  |(with_reducible (first|apply AD|apply AE))<;>(intro hc;(try simp only[AR]at hc);(try simp only[hc]);(try simp only[AQ]at hc);try omega))
 refine ST.all o1 rfl rfl (by simp) (by simp) fun g2 o2 t2=>?_
 have hf2':=t2.fl hf1'
 have tt:AZ AM g g2:=t1.B3 t2 fun q hq=>by rw[hq];exact Nat.le_refl _
 have sb2:=sbg.stay tt fun _ _ h=>h
 repeat' (first
  |refine St.h ?_
  |simp(disch:=first|omega|(simp only[AJ];omega))only[AK,↓AB,↓reduceIte,seval,f6,f27,f28,f29,o2.row.ln]
  |(with_reducible (first|apply AD|apply AE))<;>(intro hc;(try simp only[AR]at hc);(try simp only[hc]);(try simp only[AQ]at hc);try omega))
 refine CL.stay (XN (w:=L.getD j default) (by omega) (by omega) hf2') fun g3 t3=>?_
 have sb3:=sb2.stay t3 fun _ _ h=>h
 repeat' (first
  |refine St.h ?_
  |simp(disch:=first|omega|(simp only[AJ];omega))only[AK,↓AB,↓reduceIte,seval,f6,f27,f28,f29]
  |(with_reducible (first|apply AD|apply AE))<;>(intro hc;(try simp only[AR]at hc);(try simp only[hc]);(try simp only[AQ]at hc);try omega))
 refine CL.mk (FC sb3 (by simp only[List.length_append];omega) (t3.fl hf2')) ?_
 rintro _ g4 ⟨U4,sb4,t4,hU4⟩
 repeat' (first
  |refine St.h ?_
  |simp(disch:=first|omega|(simp only[AJ];omega))only[AK,↓AB,↓reduceIte,seval,f6,f27,f28,f29]
  |(with_reducible (first|apply AD|apply AE))<;>(intro hc;(try simp only[AR]at hc);(try simp only[hc]);(try simp only[AQ]at hc);try omega))
 refine Bq hI (L.length-(j+1)) (by omega) ⟨j+1,U4,rfl,by omega,((st.trans tt).trans t3).B3 t4 fun q hq=>(sb3.lo q hq).1,by rw[hcat,<-List.append_assoc];exact sb4,by simp(disch:=first|omega|(simp only[AJ];omega))only[AK,↓AB,↓reduceIte,seval,f6],by simp(disch:=first|omega|(simp only[AJ];omega))only[AK,↓AB,↓reduceIte,seval,f27],by simp(disch:=first|omega|(simp only[AJ];omega))only[AK,↓AB,↓reduceIte,seval,f28],by simp(disch:=first|omega|(simp only[AJ];omega))only[AK,↓AB,↓reduceIte,seval,f29];rfl⟩
theorem Ub {h:H} {s:List UInt8} (hs:s.length<=1000000) (hf:B.val h.floor<=B.val h.next):BZ Try.prog 59 [sv s] h fun y h'=>∃ (w:Bs) (k:Nat) (b:Bool),y=.tu [.a (Fu w),.i .i64 (k:Int),.b b]/\AZ AM h h'/\(b=false->LQ s=none)/\(b=true->LQ s=some (w,k)/\1<=k/\k<=s.length):=by
 refine BP xw (by intro hb;cases hb) (by simp) (by simp) fun Q hQ=>?_
 simp only[Ay,Nat.reduceAdd]
 repeat' (first
  |refine St.h ?_
  |simp(disch:=first|omega|(simp only[AJ];omega))only[AK,↓AB,↓reduceIte,seval]
  |(with_reducible (first|apply AD|apply AE))<;>(intro hc;(try simp only[AR]at hc);(try simp only[hc]);(try simp only[AQ]at hc);try omega))
 refine AL.own (by simp) hf fun h1 s1 n1 o1=>?_
 have hf1:=s1.fl hf
 repeat' (first
  |refine St.h ?_
  |simp(disch:=first|omega|(simp only[AJ];omega))only[AK,↓AB,↓reduceIte,seval]
  |(with_reducible (first|apply AD|apply AE))<;>(intro hc;(try simp only[AR]at hc);(try simp only[hc]);(try simp only[AQ]at hc);try omega))
 refine CL.pure (Jk hs) ?_
 have hz0:((10:Int)=0)=False:=eq_false (by decide)
 have hz1:((12:Int)=0)=False:=eq_false (by decide)
 have no:∀ {g:H} {w:Bs} {k:Nat},AZ AM h g->LQ s=none->∃ (w':Bs) (k':Nat) (b:Bool),V.tu [.a [sv w.key,.b w.del,sv w.val],.i .i64 (k:Int),.b false]=.tu [.a (Fu w'),.i .i64 (k':Int),.b b]/\AZ AM h g/\(b=false->LQ s=none)/\(b=true->LQ s=some (w',k')/\1<=k'/\k'<=s.length):=fun {g w k} st en=>⟨w,k,false,rfl,st,fun _=>en,fun h=>by cases h⟩
 have past:∀ {g2:H},AZ (fun i=>i=h.next) h1 g2->AZ AM h g2:=fun t2=>s1.B3 t2 fun q hq=>by rw[hq];exact Nat.le_refl _
 rcases Fp s with(e1|e1)|⟨x,q,e1,q1,q2,q3⟩
 ·have en:LQ s=none:=by unfold LQ;rw[e1];rfl
  repeat' (first
   |refine St.h ?_
   |simp(disch:=first|omega|(simp only[AJ];omega))only[AK,↓AB,↓reduceIte,seval,e1,GZ,hz0]
   |(with_reducible (first|apply AD|apply AE))<;>(intro hc;(try simp only[AR]at hc);(try simp only[hc]);(try simp only[AQ]at hc);try omega))
  refine ST.all o1 rfl rfl (by simp) (by simp) fun g2 o2 t2=>?_
  repeat' (first
   |refine St.h ?_
   |simp(disch:=first|omega|(simp only[AJ];omega))only[AK,↓AB,↓reduceIte,seval,o2.row.ln,o2.X0]
   |(with_reducible (first|apply AD|apply AE))<;>(intro hc;(try simp only[AR]at hc);(try simp only[hc]);(try simp only[AQ]at hc);try omega))
  subst hQ
  exact no (w:=⟨[],false,[]⟩) (k:=0) (past t2) en
 ·have en:LQ s=none:=by unfold LQ;rw[e1];rfl
  repeat' (first
   |refine St.h ?_
   |simp(disch:=first|omega|(simp only[AJ];omega))only[AK,↓AB,↓reduceIte,seval,e1,GZ,hz1]
   |(with_reducible (first|apply AD|apply AE))<;>(intro hc;(try simp only[AR]at hc);(try simp only[hc]);(try simp only[AQ]at hc);try omega))
  refine ST.all o1 rfl rfl (by simp) (by simp) fun g2 o2 t2=>?_
  repeat' (first
   |refine St.h ?_
   |simp(disch:=first|omega|(simp only[AJ];omega))only[AK,↓AB,↓reduceIte,seval,o2.row.ln,o2.X0]
   |(with_reducible (first|apply AD|apply AE))<;>(intro hc;(try simp only[AR]at hc);(try simp only[hc]);(try simp only[AQ]at hc);try omega))
  subst hQ
  exact no (w:=⟨[],false,[]⟩) (k:=0) (past t2) en
 by_cases hqe:q=s.length
 ·have en:LQ s=none:=by unfold LQ;rw[e1,if_pos (Or.inr (by show(q:Int)=(s.length:Int);omega))]
  have hq:((q:Int)=(s.length:Int))=True:=eq_true (by omega)
  repeat' (first
   |refine St.h ?_
   |simp(disch:=first|omega|(simp only[AJ];omega))only[AK,↓AB,↓reduceIte,seval,e1,GZ,hq]
   |(with_reducible (first|apply AD|apply AE))<;>(intro hc;(try simp only[AR]at hc);(try simp only[hc]);(try simp only[AQ]at hc);try omega))
  refine ST.all o1 rfl rfl (by simp) (by simp) fun g2 o2 t2=>?_
  repeat' (first
   |refine St.h ?_
   |simp(disch:=first|omega|(simp only[AJ];omega))only[AK,↓AB,↓reduceIte,seval,o2.row.ln,o2.X0]
   |(with_reducible (first|apply AD|apply AE))<;>(intro hc;(try simp only[AR]at hc);(try simp only[hc]);(try simp only[AQ]at hc);try omega))
  subst hQ
  exact no (w:=⟨[],false,[]⟩) (k:=0) (past t2) en
 have hq:((q:Int)=(s.length:Int))=False:=eq_false (by omega)
 have eq1:(q:Int).toNat=q:=by omega
 have hb:=(s.getD q 0).toNat_lt
 have eq2:((q:Int)+1).toNat=q+1:=by omega
 have hdl:(s.drop (q+1)).length=s.length-(q+1):=List.length_drop
 have hT:LQ s=if s.getD q 0=0 then
  (if (A2 (s.drop (q+1))).2.2≠0 then none else some (⟨x,false,(A2 (s.drop (q+1))).1⟩,q+1+(A2 (s.drop (q+1))).2.1.toNat))
  else if s.getD q 0=1 then some (⟨x,true,[]⟩,q+1)else none:=by
  unfold LQ
  rw[e1]
  show(if (0:Int)≠0\/(q:Int)=(s.length:Int)then none else _)=_
  rw[if_neg (by omega),eq1]
 by_cases c0:s.getD q 0=0
 ·have d0:(((s.getD q 0).toNat:Int)=0)=True:=eq_true (by rw[c0];rfl)
  rw[if_pos c0]at hT
  repeat' (first
   |refine St.h ?_
   |simp(disch:=first|omega|(simp only[AJ];omega))only[AK,↓AB,↓reduceIte,seval,e1,GZ,hq,d0,eq2]
   |(with_reducible (first|apply AD|apply AE))<;>(intro hc;(try simp only[AR]at hc);(try simp only[hc]);(try simp only[AQ]at hc);try omega))
  refine CL.pure (Jk (by omega)) ?_
  rcases Fp (s.drop (q+1))with(e2|e2)|⟨x2,r,e2,r1,r2,r3⟩
  ·have en:LQ s=none:=by rw[hT,e2];rfl
   repeat' (first
    |refine St.h ?_
    |simp(disch:=first|omega|(simp only[AJ];omega))only[AK,↓AB,↓reduceIte,seval,e2,GZ,hz0]
    |(with_reducible (first|apply AD|apply AE))<;>(intro hc;(try simp only[AR]at hc);(try simp only[hc]);(try simp only[AQ]at hc);try omega))
   refine ST.all o1 rfl rfl (by simp) (by simp) fun g2 o2 t2=>?_
   repeat' (first
    |refine St.h ?_
    |simp(disch:=first|omega|(simp only[AJ];omega))only[AK,↓AB,↓reduceIte,seval,o2.row.ln,o2.X0]
    |(with_reducible (first|apply AD|apply AE))<;>(intro hc;(try simp only[AR]at hc);(try simp only[hc]);(try simp only[AQ]at hc);try omega))
   subst hQ
   exact no (w:=⟨x,false,[]⟩) (k:=q+1) (past t2) en
  ·have en:LQ s=none:=by rw[hT,e2];rfl
   repeat' (first
    |refine St.h ?_
    |simp(disch:=first|omega|(simp only[AJ];omega))only[AK,↓AB,↓reduceIte,seval,e2,GZ,hz1]
    |(with_reducible (first|apply AD|apply AE))<;>(intro hc;(try simp only[AR]at hc);(try simp only[hc]);(try simp only[AQ]at hc);try omega))
   refine ST.all o1 rfl rfl (by simp) (by simp) fun g2 o2 t2=>?_
   repeat' (first
    |refine St.h ?_
    |simp(disch:=first|omega|(simp only[AJ];omega))only[AK,↓AB,↓reduceIte,seval,o2.row.ln,o2.X0]
    |(with_reducible (first|apply AD|apply AE))<;>(intro hc;(try simp only[AR]at hc);(try simp only[hc]);(try simp only[AQ]at hc);try omega))
   subst hQ
   exact no (w:=⟨x,false,[]⟩) (k:=q+1) (past t2) en
  ·have er:(r:Int).toNat=r:=by omega
   have en:LQ s=some (⟨x,false,x2⟩,q+1+r):=by
    rw[hT,e2]
    show(if (0:Int)≠0 then none else some ((⟨x,false,x2⟩:Bs),q+1+(r:Int).toNat))=_
    rw[if_neg (by omega),er]
   repeat' (first
    |refine St.h ?_
    |simp(disch:=first|omega|(simp only[AJ];omega))only[AK,↓AB,↓reduceIte,seval,e2,GZ]
    |(with_reducible (first|apply AD|apply AE))<;>(intro hc;(try simp only[AR]at hc);(try simp only[hc]);(try simp only[AQ]at hc);try omega))
   refine ST.all o1 rfl rfl (by simp) (by simp) fun g2 o2 t2=>?_
   repeat' (first
    |refine St.h ?_
    |simp(disch:=first|omega|(simp only[AJ];omega))only[AK,↓AB,↓reduceIte,seval,o2.row.ln,o2.X0]
    |(with_reducible (first|apply AD|apply AE))<;>(intro hc;(try simp only[AR]at hc);(try simp only[hc]);(try simp only[AQ]at hc);try omega))
   subst hQ
   refine⟨⟨x,false,x2⟩,q+1+r,true,rfl,past t2,(fun h=>by cases h),fun _=>⟨en,by omega,by omega⟩⟩
 have d0:(((s.getD q 0).toNat:Int)=0)=False:=eq_false fun e=>c0 (by apply UInt8.toNat_inj.1;show(s.getD q 0).toNat=0;omega)
 rw[if_neg c0]at hT
 by_cases c1:s.getD q 0=1
 ·have d1:(((s.getD q 0).toNat:Int)=1)=True:=eq_true (by rw[c1];rfl)
  rw[if_pos c1]at hT
  repeat' (first
   |refine St.h ?_
   |simp(disch:=first|omega|(simp only[AJ];omega))only[AK,↓AB,↓reduceIte,seval,e1,GZ,hq,d0,d1,eq2]
   |(with_reducible (first|apply AD|apply AE))<;>(intro hc;(try simp only[AR]at hc);(try simp only[hc]);(try simp only[AQ]at hc);try omega))
  refine ST.all o1 rfl rfl (by simp) (by simp) fun g2 o2 t2=>?_
  repeat' (first
   |refine St.h ?_
   |simp(disch:=first|omega|(simp only[AJ];omega))only[AK,↓AB,↓reduceIte,seval,o2.row.ln,o2.X0]
   |(with_reducible (first|apply AD|apply AE))<;>(intro hc;(try simp only[AR]at hc);(try simp only[hc]);(try simp only[AQ]at hc);try omega))
  subst hQ
  refine⟨⟨x,true,[]⟩,q+1,true,rfl,past t2,(fun h=>by cases h),fun _=>⟨hT,by omega,by omega⟩⟩
 ·have d1:(((s.getD q 0).toNat:Int)=1)=False:=eq_false fun e=>c1 (by apply UInt8.toNat_inj.1;show(s.getD q 0).toNat=1;omega)
  rw[if_neg c1]at hT
  repeat' (first
   |refine St.h ?_
   |simp(disch:=first|omega|(simp only[AJ];omega))only[AK,↓AB,↓reduceIte,seval,e1,GZ,hq,d0,d1,eq2]
   |(with_reducible (first|apply AD|apply AE))<;>(intro hc;(try simp only[AR]at hc);(try simp only[hc]);(try simp only[AQ]at hc);try omega))
  refine ST.all o1 rfl rfl (by simp) (by simp) fun g2 o2 t2=>?_
  repeat' (first
   |refine St.h ?_
   |simp(disch:=first|omega|(simp only[AJ];omega))only[AK,↓AB,↓reduceIte,seval,o2.row.ln,o2.X0]
   |(with_reducible (first|apply AD|apply AE))<;>(intro hc;(try simp only[AR]at hc);(try simp only[hc]);(try simp only[AQ]at hc);try omega))
  subst hQ
  exact no (w:=⟨[],false,[]⟩) (k:=0) (past t2) hT
theorem Of {h:H} {s:List UInt8} (hs:s.length<=1000000) (hf:B.val h.floor<=B.val h.next):BZ Try.prog 57 [sv s] h fun y h'=>∃ u,y=.tu [.i .i64 (Fa s).1,u]/\Ws h' u (Fa s).2/\(∀ q,BT u q->B.val h.next<=B.val q)/\AZ AM h h':=by
 refine BP xl (by intro hb;cases hb) (by simp) (by simp) fun Q hQ=>?_
 simp only[Ay,Nat.reduceAdd]
 repeat' (first
  |refine St.h ?_
  |simp(disch:=first|omega|(simp only[AJ];omega))only[AK,↓AB,↓reduceIte,seval]
  |(with_reducible (first|apply AD|apply AE))<;>(intro hc;(try simp only[AR]at hc);(try simp only[hc]);(try simp only[AQ]at hc);try omega))
 refine CL.pure (FT hs) ?_
 have hz0:((10:Int)=0)=False:=eq_false (by decide)
 have hz1:((12:Int)=0)=False:=eq_false (by decide)
 have no:∀ {g:H},AZ AM h g->Fa s=(0,[])->∃ u,V.tu [.i .i64 0,.l0]=.tu [.i .i64 (Fa s).1,u]/\Ws g u (Fa s).2/\(∀ q,BT u q->B.val h.next<=B.val q)/\AZ AM h g:=fun {g} st e=>by
  rw[e];exact⟨.l0,rfl,Ss.nil,(fun q hq=>by obtain⟨_,_,_,_,_,e⟩:=hq;cases e),st⟩
 rcases Bi s with(e1|e1)|⟨z,q,e1,z1,q1,q2,q3⟩
 ·have en:Fa s=(0,[]):=by unfold Fa;rw[e1];rfl
  repeat' (first
   |refine St.h ?_
   |simp(disch:=first|omega|(simp only[AJ];omega))only[AK,↓AB,↓reduceIte,seval,e1,Hf,hz0]
   |(with_reducible (first|apply AD|apply AE))<;>(intro hc;(try simp only[AR]at hc);(try simp only[hc]);(try simp only[AQ]at hc);try omega))
  subst hQ
  exact no (AZ.refl _ _) en
 ·have en:Fa s=(0,[]):=by unfold Fa;rw[e1];rfl
  repeat' (first
   |refine St.h ?_
   |simp(disch:=first|omega|(simp only[AJ];omega))only[AK,↓AB,↓reduceIte,seval,e1,Hf,hz1]
   |(with_reducible (first|apply AD|apply AE))<;>(intro hc;(try simp only[AR]at hc);(try simp only[hc]);(try simp only[AQ]at hc);try omega))
  subst hQ
  exact no (AZ.refl _ _) en
 have eq1:(q:Int).toNat=q:=by omega
 have hdl:(s.drop q).length=s.length-q:=List.length_drop
 have hT:Fa s=if (takeN (s.drop q)).2.2≠0\/8<(takeN (s.drop q)).1 then ((0:Int),([]:List Bs))else match FA (takeN (s.drop q)).1.toNat ((s.drop q).drop (takeN (s.drop q)).2.1.toNat)with|none=>((0:Int),([]:List Bs))|some l=>((z:Int),l):=by
  unfold Fa
  rw[e1]
  show(if (0:Int)≠0 then _ else _:Int×List Bs)=_
  rw[if_neg (by omega),eq1]
  all_goals rfl
 repeat' (first
  |refine St.h ?_
  |simp(disch:=first|omega|(simp only[AJ];omega))only[AK,↓AB,↓reduceIte,seval,e1,Hf,eq1]
  |(with_reducible (first|apply AD|apply AE))<;>(intro hc;(try simp only[AR]at hc);(try simp only[hc]);(try simp only[AQ]at hc);try omega))
 refine CL.pure (FT (by omega)) ?_
 rcases Bi (s.drop q)with(e2|e2)|⟨n,k,e2,n1,k1,k2,k3⟩
 ·have en:Fa s=(0,[]):=by rw[hT,e2];rfl
  repeat' (first
   |refine St.h ?_
   |simp(disch:=first|omega|(simp only[AJ];omega))only[AK,↓AB,↓reduceIte,seval,e2,Hf,hz0]
   |(with_reducible (first|apply AD|apply AE))<;>(intro hc;(try simp only[AR]at hc);(try simp only[hc]);(try simp only[AQ]at hc);try omega))
  subst hQ
  exact no (AZ.refl _ _) en
 ·have en:Fa s=(0,[]):=by rw[hT,e2];rfl
  repeat' (first
   |refine St.h ?_
   |simp(disch:=first|omega|(simp only[AJ];omega))only[AK,↓AB,↓reduceIte,seval,e2,Hf,hz1]
   |(with_reducible (first|apply AD|apply AE))<;>(intro hc;(try simp only[AR]at hc);(try simp only[hc]);(try simp only[AQ]at hc);try omega))
  subst hQ
  exact no (AZ.refl _ _) en
 rw[hdl]at k3
 have ek:(k:Int).toNat=k:=by omega
 have en':(n:Int).toNat=n:=by omega
 have hdd:(s.drop q).drop k=s.drop (q+k):=by rw[List.drop_drop]
 by_cases h8:8<n
 ·have en:Fa s=(0,[]):=by rw[hT,e2,if_pos (Or.inr (by show(8:Int)<(n:Int);omega))]
  have hc8:((8:Int)<(n:Int))=True:=eq_true (by omega)
  repeat' (first
   |refine St.h ?_
   |simp(disch:=first|omega|(simp only[AJ];omega))only[AK,↓AB,↓reduceIte,seval,e2,Hf,hc8]
   |(with_reducible (first|apply AD|apply AE))<;>(intro hc;(try simp only[AR]at hc);(try simp only[hc]);(try simp only[AQ]at hc);try omega))
  subst hQ
  exact no (AZ.refl _ _) en
 have hT:Fa s=match FA n (s.drop (q+k))with|none=>((0:Int),([]:List Bs))|some l=>((z:Int),l):=by
  rw[hT,e2]
  show(if (0:Int)≠0\/(8:Int)<(n:Int)then _ else _:Int×List Bs)=_
  rw[if_neg (by omega),en',ek,hdd]
 have hc8:((8:Int)<(n:Int))=False:=eq_false (by omega)
 repeat' (first
  |refine St.h ?_
  |simp(disch:=first|omega|(simp only[AJ];omega))only[AK,↓AB,↓reduceIte,seval,e2,Hf,hc8]
  |(with_reducible (first|apply AD|apply AE))<;>(intro hc;(try simp only[AR]at hc);(try simp only[hc]);(try simp only[AQ]at hc);try omega))
 refine Ok.lp (fun m t g=>∃ (j a:Nat) (u:V) (M:List Bs),m=n-j/\j<=n/\a<=s.length/\M.length=j/\FA n (s.drop (q+k))=(FA (n-j) (s.drop a)).map (fun r=>M++r)/\get 0 t=sv s/\get 4 t=.i .i64 (z:Int)/\get 5 t=.i .i64 (a:Int)/\get 9 t=u/\get 38 t=.i .i64 (n:Int)/\get 39 t=.i .i64 (j:Int)/\EY g 39 3 u (M.flatMap Fu)/\(∀ q,BT u q->B.val h.next<=B.val q)/\AZ AM h g) n ?_ ?_
 ·simp(disch:=first|omega|(simp only[AJ];omega))only[AK,↓AB,↓reduceIte,seval]
  refine⟨0,q+k,.l0,[],by omega,by omega,by omega,rfl,?_,?_,?_,?_,?_,?_,?_,EY.nil _ _ _,?_,AZ.refl _ _⟩
  rotate_right
  ·rintro i ⟨_,_,_,_,_,e⟩;cases e
  ·rw[Nat.sub_zero];cases FA n (s.drop (q+k))<;>simp
  all_goals first|trivial|rfl
 rintro I hI m t g ⟨j,a,u,M,rfl,hj,ha,hM,hR,f0,f4,f5,f9,f38,f39,bf,own,st⟩
 have hfg:=st.fl hf
 by_cases hjn:j<n
 case neg=>
  obtain rfl:j=n:=by omega
  have d1:((j:Int)<(j:Int))=False:=eq_false (by omega)
  rw[Nat.sub_self]at hR
  have e3:Fa s=((z:Int),M):=by rw[hT,hR];simp[FA]
  repeat' (first
   |refine St.h ?_
   |simp(disch:=first|omega|(simp only[AJ];omega))only[AK,↓AB,↓reduceIte,seval,f0,f4,f5,f9,f38,f39,d1]
   |(with_reducible (first|apply AD|apply AE))<;>(intro hc;(try simp only[AR]at hc);(try simp only[hc]);(try simp only[AQ]at hc);try omega))
  subst hQ
  rw[e3]
  exact⟨u,rfl,Ss.buf bf rfl Cs (by omega),own,st⟩
 have d1:((j:Int)<(n:Int))=True:=eq_true (by omega)
 obtain⟨d,hd⟩:∃ d,n-j=d+1:=⟨n-j-1,by omega⟩
 rw[hd]at hR
 have hal:(s.drop a).length=s.length-a:=List.length_drop
 have hR2:FA (d+1) (s.drop a)=(LQ (s.drop a)).bind fun r=>(FA d ((s.drop a).drop r.2)).map (r.1::·):=rfl
 repeat' (first
  |refine St.h ?_
  |simp(disch:=first|omega|(simp only[AJ];omega))only[AK,↓AB,↓reduceIte,seval,f0,f4,f5,f9,f38,f39,d1,Int.toNat_natCast]
  |(with_reducible (first|apply AD|apply AE))<;>(intro hc;(try simp only[AR]at hc);(try simp only[hc]);(try simp only[AQ]at hc);try omega))
 refine CL.mk (Ub (s:=s.drop a) (by omega) hfg) ?_
 rintro _ g1 ⟨w,c,b,rfl,t1,hno,hyes⟩
 have hf1:=t1.fl hfg
 have st1:=st.trans t1
 unfold Fu
 repeat' (first
  |refine St.h ?_
  |simp(disch:=first|omega|(simp only[AJ];omega))only[AK,↓AB,↓reduceIte,seval,f0,f4,f5,f9,f38,f39]
  |(with_reducible (first|apply AD|apply AE))<;>(intro hc;(try simp only[AR]at hc);(try simp only[hc]);(try simp only[AQ]at hc);try omega))
 refine AL.own (by simp) hf1 fun g2 t2 _ o2=>?_
 have hf2:=t2.fl hf1
 repeat' (first
  |refine St.h ?_
  |simp(disch:=first|omega|(simp only[AJ];omega))only[AK,↓AB,↓reduceIte,seval,f0,f4,f5,f9,f38,f39]
  |(with_reducible (first|apply AD|apply AE))<;>(intro hc;(try simp only[AR]at hc);(try simp only[hc]);(try simp only[AQ]at hc);try omega))
 refine ST.all o2 rfl rfl (by simp) (by simp) fun g3 o3 t3=>?_
 have hf3:=t3.fl hf2
 have t13:AZ AM g1 g3:=t2.B3 t3 fun q hq=>by rw[hq];exact Nat.le_refl _
 have st3:=st1.trans t13
 have b3:=bf.grow (t1.trans t13)
 cases b with
 |false=>
  have en:Fa s=(0,[]):=by rw[hT,hR,hR2,hno rfl];rfl
  repeat' (first
   |refine St.h ?_
   |simp(disch:=first|omega|(simp only[AJ];omega))only[AK,↓AB,↓reduceIte,seval,f0,f4,f5,f9,f38,f39]
   |(with_reducible (first|apply AD|apply AE))<;>(intro hc;(try simp only[AR]at hc);(try simp only[hc]);(try simp only[AQ]at hc);try omega))
  subst hQ
  exact no st3 en
 |true=>
  obtain⟨y1,y2,y3⟩:=hyes rfl
  rw[hal]at y3
  have hdd2:(s.drop a).drop c=s.drop (a+c):=by rw[List.drop_drop]
  rw[y1]at hR2
  have hR2:FA (d+1) (s.drop a)=(FA d (s.drop (a+c))).map (w::·):=by rw[hR2];show((FA d ((s.drop a).drop c)).map (w::·))=_;rw[hdd2]
  repeat' (first
   |refine St.h ?_
   |simp(disch:=first|omega|(simp only[AJ];omega))only[AK,↓AB,↓reduceIte,seval,f0,f4,f5,f9,f38,f39,o3.row.ln]
   |(with_reducible (first|apply AD|apply AE))<;>(intro hc;(try simp only[AR]at hc);(try simp only[hc]);(try simp only[AQ]at hc);try omega))
  refine AL.own (by simp) hf3 fun g4 t4 _ o4=>?_
  repeat' (first
   |refine St.h ?_
   |simp(disch:=first|omega|(simp only[AJ];omega))only[AK,↓AB,↓reduceIte,seval,f0,f4,f5,f9,f38,f39]
   |(with_reducible (first|apply AD|apply AE))<;>(intro hc;(try simp only[AR]at hc);(try simp only[hc]);(try simp only[AQ]at hc);try omega))
  refine Pb (x:=w) (b3.grow t4) o4 (by omega) (t4.fl hf3) fun u2 g5 b5 t5 ho=>?_
  have n5:=(st3.trans t4).next
  repeat' (first
   |refine St.h ?_
   |simp(disch:=first|omega|(simp only[AJ];omega))only[AK,↓AB,↓reduceIte,seval,f0,f4,f5,f9,f38,f39]
   |(with_reducible (first|apply AD|apply AE))<;>(intro hc;(try simp only[AR]at hc);(try simp only[hc]);(try simp only[AQ]at hc);try omega))
  refine Bq hI (n-(j+1)) (by omega) ⟨j+1,a+c,u2,M++[w],rfl,by omega,by omega,by rw[List.length_append,hM];rfl,?_,by simp(disch:=first|omega|(simp only[AJ];omega))only[AK,↓AB,↓reduceIte,seval,f0],by simp(disch:=first|omega|(simp only[AJ];omega))only[AK,↓AB,↓reduceIte,seval,f4],by simp(disch:=first|omega|(simp only[AJ];omega))only[AK,↓AB,↓reduceIte,seval,f5];rfl,by simp(disch:=first|omega|(simp only[AJ];omega))only[AK,↓AB,↓reduceIte,seval],by simp(disch:=first|omega|(simp only[AJ];omega))only[AK,↓AB,↓reduceIte,seval,f38],by simp(disch:=first|omega|(simp only[AJ];omega))only[AK,↓AB,↓reduceIte,seval,f39];rfl,b5,fun i hi=>?_,(st3.trans t4).B3 t5 fun q hq=>own q hq⟩
  ·rw[hR,hR2,show n-(j+1)=d by omega]
   cases FA d (s.drop (a+c))<;>simp
  ·rcases ho i hi with h3|h3
   ·exact own i h3
   ·omega
theorem PB {h:H} {s:List UInt8} (hs:s.length<=200000) (hf:B.val h.floor<=B.val h.next):BZ Try.prog 53 [sv s] h fun y h'=>∃ u,y=vv u (Ei s)/\Ws h' u (Ei s).2.1/\(∀ q,BT u q->B.val h.next<=B.val q)/\AZ AM h h':=by
 refine BP wx (by intro hb;cases hb) (by simp) (by simp) fun Q hQ=>?_
 simp only[Ay,Nat.reduceAdd]
 repeat' (first
  |refine St.h ?_
  |simp(disch:=first|omega|(simp only[AJ];omega))only[AK,↓AB,↓reduceIte,seval]
  |(with_reducible (first|apply AD|apply AE))<;>(intro hc;(try simp only[AR]at hc);(try simp only[hc]);(try simp only[AQ]at hc);try omega))
 refine CL.stay (Mk (by omega) hf) fun h1 s1=>?_
 have hf1:=s1.fl hf
 have hend:∀ {g:H} (e:Int),AZ AM h g->Ei s=(0,[],0,e)->∃ u,V.tu [.i .i64 0,.l0,.i .i64 0,.i .i64 e]=vv u (Ei s)/\Ws g u (Ei s).2.1/\(∀ q,BT u q->B.val h.next<=B.val q)/\AZ AM h g:=fun {g} e st e1=>by
  rw[e1]
  exact⟨.l0,rfl,Ss.nil,(fun q hq=>by obtain⟨_,_,_,_,_,e⟩:=hq;cases e),st⟩
 have hz1:((12:Int)=0)=False:=eq_false (by decide)
 have hz2:((13:Int)=0)=False:=eq_false (by decide)
 rcases Fg s with e|e|⟨x,n,e,n1,n2,n3⟩
 ·have e0:Ei s=(0,[],0,12):=by unfold Ei;rw[e];rfl
  repeat' (first
   |refine St.h ?_
   |simp(disch:=first|omega|(simp only[AJ];omega))only[AK,↓AB,↓reduceIte,seval,opn,e,hz1]
   |(with_reducible (first|apply AD|apply AE))<;>(intro hc;(try simp only[AR]at hc);(try simp only[hc]);(try simp only[AQ]at hc);try omega))
  subst hQ
  exact hend 12 s1 e0
 ·have e0:Ei s=(0,[],0,13):=by unfold Ei;rw[e];rfl
  repeat' (first
   |refine St.h ?_
   |simp(disch:=first|omega|(simp only[AJ];omega))only[AK,↓AB,↓reduceIte,seval,opn,e,hz2]
   |(with_reducible (first|apply AD|apply AE))<;>(intro hc;(try simp only[AR]at hc);(try simp only[hc]);(try simp only[AQ]at hc);try omega))
  subst hQ
  exact hend 13 s1 e0
 have hR:=YK (by omega) e
 obtain⟨i1,i2⟩:=XQ x
 have i3:=QS x
 repeat' (first
  |refine St.h ?_
  |simp(disch:=first|omega|(simp only[AJ];omega))only[AK,↓AB,↓reduceIte,seval,opn,e]
  |(with_reducible (first|apply AD|apply AE))<;>(intro hc;(try simp only[AR]at hc);(try simp only[hc]);(try simp only[AQ]at hc);try omega))
 refine CL.mk (Of (by omega) hf1) ?_
 rintro _ h2 ⟨u,rfl,hu,uo,s2⟩
 have hf2:=s2.fl hf1
 have s02:=s1.trans s2
 repeat' (first
  |refine St.h ?_
  |simp(disch:=first|omega|(simp only[AJ];omega))only[AK,↓AB,↓reduceIte,seval]
  |(with_reducible (first|apply AD|apply AE))<;>(intro hc;(try simp only[AR]at hc);(try simp only[hc]);(try simp only[AQ]at hc);try omega))
 refine CL.stay (L8 (seq:=(Fa x).1) hu (by omega) (by omega) (by omega) hf2) fun h3 s3=>?_
 have s03:=s02.trans s3
 by_cases hc:(Du (Fa x).1 (Fa x).2).1=s.take n
 ·have hcd:decide ((Du (Fa x).1 (Fa x).2).1=s.take n)=true:=decide_eq_true hc
  rw[if_pos hc]at hR
  repeat' (first
   |refine St.h ?_
   |simp(disch:=first|omega|(simp only[AJ];omega))only[AK,↓AB,↓reduceIte,seval,hc,hcd,Int.toNat_natCast]
   |(with_reducible (first|apply AD|apply AE))<;>(intro hc;(try simp only[AR]at hc);(try simp only[hc]);(try simp only[AQ]at hc);try omega))
  subst hQ
  rw[hR]
  exact⟨u,rfl,hu.grow s3,fun q hq=>Nat.le_trans s1.next (uo q hq),s03⟩
 ·have hcd:decide ((Du (Fa x).1 (Fa x).2).1=s.take n)=false:=decide_eq_false hc
  rw[if_neg hc]at hR
  repeat' (first
   |refine St.h ?_
   |simp(disch:=first|omega|(simp only[AJ];omega))only[AK,↓AB,↓reduceIte,seval,hcd,Int.toNat_natCast]
   |(with_reducible (first|apply AD|apply AE))<;>(intro hc;(try simp only[AR]at hc);(try simp only[hc]);(try simp only[AQ]at hc);try omega))
  subst hQ
  exact hend 10 s03 hR
end Go.Proofs.Ytmlcddeikgechaa
namespace Go.Proofs.Ytmlcddeikgechaa
open Go Go.Ev
theorem HR {x:Em} (h:F7 x=true):(DG x).length<=600:=by
 have h1:=HD h
 have h2:=D4 (Hh h)
 have a:=BO (n:=x.lv.toNat) (by omega)
 have b:=BO (n:=x.n.toNat) (by omega)
 have c:=BO (n:=x.tn.toNat) (by omega)
 unfold DG
 simp only[List.length_append,List.length_cons]
 omega
theorem Pn {L:List Bs} (hB:Ho L=true):Br (Bf L)=some L:=by
 have h8:=Gc hB
 have e:=G1 (L:=L) [] (Mt hB)
 have en:takeN (Bf L)=((L.length:Int),((A7 L.length).length:Int),0):=B5 (by omega) _
 unfold Br
 rw[en]
 show(if (0:Int)≠0\/8<(L.length:Int)then none else _)=_
 rw[if_neg (by omega)]
 rw[show((L.length:Int)).toNat=L.length by omega,show(((A7 L.length).length:Int)).toNat=(A7 L.length).length by omega]
 rw[show(Bf L).drop (A7 L.length).length=L.flatMap CH++[]by unfold Bf;rw[List.drop_left,List.append_nil],e]
 rfl
theorem PH {x:Em} (h:F7 x=true):Ek (DG x)=some x:=by
 have h1:=HD h
 have e1:takeN (DG x)=((x.lv.toNat:Int),((A7 x.lv.toNat).length:Int),0):=B5 (by omega) _
 unfold Ek
 rw[e1]
 show(if (0:Int)≠0 then none else _)=_
 rw[if_neg (by omega)]
 rw[show(((A7 x.lv.toNat).length:Int)).toNat=(A7 x.lv.toNat).length by omega]
 have d1:(DG x).drop (A7 x.lv.toNat).length=A7 x.n.toNat++(A7 x.tn.toNat++(EV x::Bf x.ws)):=by unfold DG;rw[List.drop_left]
 have e2:takeN (A7 x.n.toNat++(A7 x.tn.toNat++(EV x::Bf x.ws)))=((x.n.toNat:Int),((A7 x.n.toNat).length:Int),0):=B5 (by omega) _
 have e3:takeN (A7 x.tn.toNat++(EV x::Bf x.ws))=((x.tn.toNat:Int),((A7 x.tn.toNat).length:Int),0):=B5 (by omega) _
 simp only[d1,e2]
 rw[if_neg (by omega),show(((A7 x.n.toNat).length:Int)).toNat=(A7 x.n.toNat).length by omega,List.drop_left]
 simp only[e3]
 rw[if_neg (by omega),show(((A7 x.tn.toNat).length:Int)).toNat=(A7 x.tn.toNat).length by omega,List.drop_left]
 simp only[Pn (Hh h)]
 refine congrArg some (Qh ⟨?_,?_,?_,?_,rfl⟩)
 ·show((x.lv.toNat:Nat):Int)=x.lv;omega
 ·show((x.n.toNat:Nat):Int)=x.n;omega
 ·show((x.tn.toNat:Nat):Int)=x.tn;omega
 ·show decide (EV x=1)=x.sh
  unfold EV
  cases x.sh<;>rfl
theorem Ry {x:Em} (h:F7 x=true) (more:List UInt8):An (FY x++more)=(x,((FY x).length:Int),0):=by
 have hl:=HR h
 have e:CV (FY x++more)=(DG x,((FY x).length:Int),0):=C9 (by omega)
 unfold An
 simp only[e,PH h]
 rw[if_neg (by omega),show(((FY x).length:Int)).toNat=(FY x).length by omega,List.take_left,if_pos ⟨h,rfl⟩]
theorem OX (s:List UInt8):(∃ k:Int,An s=(C7,0,k)/\(k=10\/k=12\/k=13))\/∃ (x:Em) (n:Nat),An s=(x,(n:Int),0)/\F7 x=true/\s.take n=FY x/\5<=n/\n<=s.length:=by
 rcases Fg s with e|e|⟨b,n,e,h1,h2,h3⟩
 ·left;exact⟨12,by unfold An;rw[e];rfl,by omega⟩
 ·left;exact⟨13,by unfold An;rw[e];rfl,by omega⟩
 ·unfold An
  simp only[e]
  rw[if_neg (by omega)]
  cases ht:Ek b with
  |none=>left;exact⟨10,rfl,by omega⟩
  |some x=>
   by_cases hc:F7 x=true/\FY x=s.take ((n:Int)).toNat
   ·right
    refine⟨x,n,by simp only[];rw[if_pos hc],hc.1,?_,h1,h2⟩
    rw[hc.2];congr 1
   ·left;exact⟨10,by simp only[];rw[if_neg hc],by omega⟩
end Go.Proofs.Ytmlcddeikgechaa
namespace Go.Proofs.Ytmlcddeikgechaa
open Go Go.Ev
/--the writes that batch reads behind a number -/
def Xs (b:List UInt8):List Bs:=(Ei (B7 (A7 1++b))).2.1
def Xt (b:List UInt8) (p:Nat) (x y z:Int):Em:=match b.drop p with|[]=>C7|c::r=>⟨x,y,z,decide (c=1),Xs r⟩
def SY (b:List UInt8) (p:Nat) (x y:Int):Em:=if (takeN (b.drop p)).2.2≠0 then C7 else Xt b (p+(takeN (b.drop p)).2.1.toNat) x y (takeN (b.drop p)).1
def SZ (b:List UInt8) (p:Nat) (x:Int):Em:=if (takeN (b.drop p)).2.2≠0 then C7 else SY b (p+(takeN (b.drop p)).2.1.toNat) x (takeN (b.drop p)).1
def gN (b:List UInt8) (p:Nat):Em:=if (takeN (b.drop p)).2.2≠0 then C7 else SZ b (p+(takeN (b.drop p)).2.1.toNat) (takeN (b.drop p)).1
/--what the program takes -/
def GL (b:List UInt8):Em:=gN b 0
/--where the loop is -/
def X8 (b:List UInt8) (p:Nat) (xs:List V) (i:Nat):Prop:=
 (i=0/\xs=[.i .i64 0,.i .i64 0,.i .i64 0]/\GL b=gN b p)\/(∃ x,i=1/\xs=[.i .i64 x,.i .i64 0,.i .i64 0]/\GL b=SZ b p x)\/
 (∃ x y,i=2/\xs=[.i .i64 x,.i .i64 y,.i .i64 0]/\GL b=SY b p x y)\/(∃ x y z,i=3/\xs=[.i .i64 x,.i .i64 y,.i .i64 z]/\GL b=Xt b p x y z)
theorem X8.no {b:List UInt8} {p i:Nat} {xs:List V} (a:X8 b p xs i) (hi:i<3) (h:(takeN (b.drop p)).2.2≠0):GL b=C7:=by
 rcases a with⟨_,_,e⟩|⟨x,_,_,e⟩|⟨x,y,_,_,e⟩|⟨x,y,z,e,_⟩
 ·rw[e];unfold gN;rw[if_pos h]
 ·rw[e];unfold SZ;rw[if_pos h]
 ·rw[e];unfold SY;rw[if_pos h]
 ·omega
theorem X8.len {b:List UInt8} {p i:Nat} {xs:List V} (a:X8 b p xs i):xs.length=3/\i<=3:=by
 rcases a with⟨rfl,rfl,e⟩|⟨x,rfl,rfl,e⟩|⟨x,y,rfl,rfl,e⟩|⟨x,y,z,rfl,rfl,_⟩<;>exact⟨rfl,by omega⟩
theorem X8.next {b:List UInt8} {p i:Nat} {xs:List V} {q k:Nat} (a:X8 b p xs i) (hi:i<3) (h:takeN (b.drop p)=((q:Int),(k:Int),0)):X8 b (p+k) (xs.set i (.i .i64 (q:Int))) (i+1):=by
 have hk:((k:Int)).toNat=k:=by omega
 rcases a with⟨rfl,rfl,e⟩|⟨x,rfl,rfl,e⟩|⟨x,y,rfl,rfl,e⟩|⟨x,y,z,rfl,_⟩
 ·refine .inr (.inl ⟨_,rfl,rfl,?_⟩);rw[e];unfold gN;rw[h,if_neg (by simp)];simp only[hk]
 ·refine .inr (.inr (.inl ⟨_,_,rfl,rfl,?_⟩));rw[e];unfold SZ;rw[h,if_neg (by simp)];simp only[hk]
 ·refine .inr (.inr (.inr ⟨_,_,_,rfl,rfl,?_⟩));rw[e];unfold SY;rw[h,if_neg (by simp)];simp only[hk]
 ·omega
theorem Tp {L:List Bs} (hB:Ho L=true):Xs (Bf L)=L:=by
 have h:=LY (q:=1) (L:=L) (E5.2 ⟨hB,by omega,by omega⟩) []
 rw[List.append_nil]at h
 unfold Xs
 rw[show B7 (A7 1++Bf L)=Jq ((1:Nat):Int) L from rfl,h]
theorem Xj (b:List UInt8) (hb:b.length<=999000):(Xs b).length<=8:=by
 unfold Xs
 have h1:=BO (n:=1) (by omega)
 have e:=C9 (l:=A7 1++b) (more:=[]) (by rw[List.length_append];omega)
 rw[List.append_nil]at e
 rw[YK (by rw[Dm];have:=BO (n:=(A7 1++b).length) (by rw[List.length_append];omega);rw[List.length_append]at this⊢;omega) e]
 split
 ·exact QS _
 ·simp
theorem WQ (b:List UInt8) (hb:b.length<=999000):(GL b).ws.length<=8:=by
 have z:C7.ws.length<=8:=by simp[C7]
 have e3:∀ p x y z,(Xt b p x y z).ws.length<=8:=fun p x y z=>by
  unfold Xt
  cases hd:b.drop p with
  |nil=>simp[C7]
  |cons c r=>
   have:=congrArg List.length hd
   rw[List.length_drop,List.length_cons]at this
   exact Xj r (by omega)
 unfold GL gN SZ SY
 repeat' split
 all_goals first|exact z|exact e3 _ _ _ _
theorem Si {x:Em} (h:F7 x=true):GL (DG x)=x:=by
 have h1:=HD h
 have hk:∀ l:List UInt8,((l.length:Int)).toNat=l.length:=fun l=>by omega
 have e1:takeN (DG x)=((x.lv.toNat:Int),((A7 x.lv.toNat).length:Int),0):=B5 (by omega) _
 have e2:takeN (A7 x.n.toNat++(A7 x.tn.toNat++(EV x::Bf x.ws)))=((x.n.toNat:Int),((A7 x.n.toNat).length:Int),0):=B5 (by omega) _
 have e3:takeN (A7 x.tn.toNat++(EV x::Bf x.ws))=((x.tn.toNat:Int),((A7 x.tn.toNat).length:Int),0):=B5 (by omega) _
 have d1:(DG x).drop (0+(A7 x.lv.toNat).length)=A7 x.n.toNat++(A7 x.tn.toNat++(EV x::Bf x.ws)):=by unfold DG;rw[Nat.zero_add,List.drop_left]
 have d2:(DG x).drop (0+(A7 x.lv.toNat).length+(A7 x.n.toNat).length)=A7 x.tn.toNat++(EV x::Bf x.ws):=by rw[<-List.drop_drop,d1,List.drop_left]
 have d3:(DG x).drop (0+(A7 x.lv.toNat).length+(A7 x.n.toNat).length+(A7 x.tn.toNat).length)=EV x::Bf x.ws:=by rw[<-List.drop_drop,d2,List.drop_left]
 unfold GL gN SZ SY Xt
 rw[List.drop_zero,e1]
 simp only[hk,d1,e2,d2,e3,d3,ne_eq,not_true,if_false]
 refine Qh ⟨?_,?_,?_,?_,Tp (Hh h)⟩
 ·show((x.lv.toNat:Nat):Int)=x.lv;omega
 ·show((x.n.toNat:Nat):Int)=x.n;omega
 ·show((x.tn.toNat:Nat):Int)=x.tn;omega
 ·show decide (EV x=1)=x.sh
  unfold EV
  cases x.sh<;>rfl
/--what the program reads is what the document reads -/
theorem hY {s b:List UInt8} {n:Nat} (hs:s.length<=1000000) (e:CV s=(b,(n:Int),0)):An s=if F7 (GL b)=true/\FY (GL b)=s.take n then (GL b,(n:Int),0)else (C7,0,10):=by
 obtain⟨more,hm⟩:=Lz e
 have hb:b.length<=s.length:=by rw[hm,List.length_append,Dm];omega
 have hn:n=(B7 b).length:=by
  have:=C9 (l:=b) (more:=more) (by omega)
  rw[<-hm,e]at this
  have:=(Prod.mk.inj (Prod.mk.inj this).2).1
  omega
 have ht:s.take n=B7 b:=by rw[hm,hn,List.take_left]
 have inj:∀ x:Em,F7 x=true->FY x=B7 b->DG x=b:=fun x hx h=>by
  have:=HR hx
  exact Li (by omega) (by omega) h
 rw[ht]
 by_cases hc:F7 (GL b)=true/\FY (GL b)=B7 b
 ·rw[if_pos hc,hm,hn,<-hc.2]
  exact Ry hc.1 more
 ·rw[if_neg hc]
  unfold An
  simp only[e]
  rw[if_neg (by omega)]
  cases hT:Ek b with
  |none=>rfl
  |some x=>
   show(if F7 x=true/\FY x=s.take ((n:Int)).toNat then _ else _:Em×Int×Int)=_
   rw[show((n:Int)).toNat=n by omega,ht]
   refine if_neg fun h=>hc ?_
   have hx:=inj x h.1 h.2
   have:GL b=x:=by rw[<-hx];exact Si h.1
   rw[this];exact h
end Go.Proofs.Ytmlcddeikgechaa
set_option maxRecDepth 1000000
namespace Go.Proofs.Ytmlcddeikgechaa
open Go Go.Ev
abbrev lE:CC:=(CC.seq (CC.region [(wB 2 (AA (O.c (V.b Bool.false))))]) CC.ret)
abbrev ni:CC:=(CC.cond (tm 31) lE CC.skip)
abbrev qZ:CC:=(CC.seq (CC.region [(wB 4 (AG 0 (tm 1))),(wB 5 (Aa (tm 4))),(wB 6 (AX Cr (tm 5) (oN 0))),(wB 7 (AA (tm 6))),(wG 7 false 8 (AG 0 (tm 1))),(wG 7 false 9 (Aa (tm 8))),(wG 7 false 10 (AX Gt (tm 9) (oN 6))),(wB 11 (Ac (tm 7) (O.c (V.b Bool.true)) (tm 10))),(wB 12 (AA (tm 11))),(wG 12 false 13 (AG 1 (tm 1))),(wG 12 false 14 (Aa (tm 13))),(wG 12 false 15 (AX Cr (tm 14) (oN 1))),(wB 16 (Ac (tm 12) (O.c (V.b Bool.true)) (tm 15))),(wB 17 (AA (tm 16))),(wG 17 false 18 (AG 1 (tm 1))),(wG 17 false 19 (Aa (tm 18))),(wG 17 false 20 (AX C6 (tm 19) (oN 1000000))),(wB 21 (Ac (tm 17) (O.c (V.b Bool.true)) (tm 20))),(wB 22 (AA (tm 21))),(wG 22 false 23 (AG 2 (tm 1))),(wG 22 false 24 (Aa (tm 23))),(wG 22 false 25 (AX Cr (tm 24) (oN 0))),(wB 26 (Ac (tm 22) (O.c (V.b Bool.true)) (tm 25))),(wB 27 (AA (tm 26))),(wG 27 false 28 (AG 2 (tm 1))),(wG 27 false 29 (Aa (tm 28))),(wG 27 false 30 (AX C6 (tm 29) (oN 1000000))),(wB 31 (Ac (tm 27) (O.c (V.b Bool.true)) (tm 30)))]) ni)
abbrev iB:CC:=(CC.cond (tm 36) CC.skip (CC.exit 0))
abbrev je:CC:=(CC.seq (CC.region [(wB 32 (AA (tm 3))),(wB 33 (AG 4 (tm 1))),(wB 34 (Aa (tm 33))),(wB 35 (CG (tm 34))),(wB 36 (AX Cr (tm 32) (tm 35)))]) iB)
abbrev rB:CC:=(CC.seq (CC.region [(wB 2 (AA (O.c (V.b Bool.false))))]) CC.ret)
abbrev lA:CC:=(CC.cond (tm 46) rB CC.skip)
abbrev nW:CC:=(CC.seq (CC.region [(wB 39 (AG 4 (tm 1))),(wB 40 (Aa (tm 39))),(wB 41 (AA (tm 3))),(wB 42 (As 3 (tm 40) (tm 41))),(wB 43 (AG 0 (tm 42))),(wB 44 (Aa (tm 43))),(wB 45 (BH (tm 44))),(wB 46 (AX C6 (tm 45) (oN 12)))]) lA)
abbrev jA:CC:=(CC.block 1 nW)
abbrev mh:CC:=(CC.region [(wB 37 (AA (tm 3))),(wB 38 (AX By (tm 37) (oN 1))),(wB 3 (AA (tm 38)))])
abbrev YR:CC:=(CC.seq jA mh)
abbrev rF:CC:=(CC.seq je YR)
abbrev bz:CC:=(CC.loop rF)
abbrev Zg:CC:=(CC.block 0 bz)
abbrev YY:CC:=(CC.seq (CC.region [(wB 3 (AA (oN 0)))]) Zg)
abbrev Z6:CC:=(CC.seq (CC.region [(wB 47 (AG 3 (tm 1))),(wB 48 (Aa (tm 47))),(wB 49 (AA (tm 48))),(wG 49 true 50 (AG 4 (tm 1))),(wG 49 true 51 (Aa (tm 50))),(wG 49 true 52 (CG (tm 51))),(wG 49 true 53 (AX CY (tm 52) (oN 0))),(wB 54 (Ac (tm 49) (tm 53) (O.c (V.b Bool.false)))),(wB 55 (AA (tm 54))),(wG 55 false 56 (AG 3 (tm 1))),(wG 55 false 57 (Aa (tm 56))),(wG 55 false 58 (CN (tm 57))),(wG 55 false 59 (AA (tm 58))),(wG 59 true 60 (AG 4 (tm 1))),(wG 59 true 61 (Aa (tm 60))),(wG 59 true 62 (CG (tm 61))),(wG 59 true 63 (AX C6 (tm 62) (oN 0))),(wG 55 false 64 (Ac (tm 59) (tm 63) (O.c (V.b Bool.false)))),(wG 55 false 65 (AA (tm 64))),(wG 65 true 66 (AG 4 (tm 1))),(wG 65 true 67 (Aa (tm 66))),(wG 65 true 68 (AW 33 [(tm 67)])),(wG 55 false 69 (Ac (tm 65) (tm 68) (O.c (V.b Bool.false)))),(wB 70 (Ac (tm 55) (O.c (V.b Bool.true)) (tm 69))),(wB 2 (AA (tm 70)))]) CC.ret)
abbrev de:CC:=(CC.seq YY Z6)
abbrev cm:CC:=(CC.seq qZ de)
abbrev wv:CC:=(CC.seq (CC.region [(wB 1 (Cn 24 (tm 0))),(wB 2 (AA (O.c (V.b Bool.false))))]) cm)
theorem xt:AY Try.prog 16=⟨71,wv,[(Rs.tmp (AV 2))]⟩:=by kernel_rfl
abbrev gR:CC:=(CC.seq (CC.region [(wB 5 (AG 0 (tm 2))),(wB 6 (Aa (tm 5))),(wB 7 (AG 0 (tm 3))),(wB 8 (Aa (tm 7))),(wB 9 (AX CY (tm 6) (tm 8))),(wB 10 (AA (tm 9))),(wG 10 true 11 (AG 1 (tm 2))),(wG 10 true 12 (Aa (tm 11))),(wG 10 true 13 (AG 1 (tm 3))),(wG 10 true 14 (Aa (tm 13))),(wG 10 true 15 (AX CY (tm 12) (tm 14))),(wB 16 (Ac (tm 10) (tm 15) (O.c (V.b Bool.false)))),(wB 17 (AA (tm 16))),(wG 17 true 18 (AG 2 (tm 2))),(wG 17 true 19 (Aa (tm 18))),(wG 17 true 20 (AG 2 (tm 3))),(wG 17 true 21 (Aa (tm 20))),(wG 17 true 22 (AX CY (tm 19) (tm 21))),(wB 23 (Ac (tm 17) (tm 22) (O.c (V.b Bool.false)))),(wB 24 (AA (tm 23))),(wG 24 true 25 (AG 3 (tm 2))),(wG 24 true 26 (Aa (tm 25))),(wG 24 true 27 (AG 3 (tm 3))),(wG 24 true 28 (Aa (tm 27))),(wG 24 true 29 (DF Bool.false (tm 26) (tm 28))),(wB 30 (Ac (tm 24) (tm 29) (O.c (V.b Bool.false)))),(wB 31 (AA (tm 30))),(wG 31 true 32 (AG 4 (tm 2))),(wG 31 true 33 (Aa (tm 32))),(wG 31 true 34 (AG 4 (tm 3))),(wG 31 true 35 (Aa (tm 34))),(wG 31 true 36 (AW 29 [(tm 33),(tm 35)])),(wB 37 (Ac (tm 31) (tm 36) (O.c (V.b Bool.false)))),(wB 4 (AA (tm 37)))]) CC.ret)
abbrev PQ:CC:=(CC.seq (CC.region [(wB 2 (Cn 24 (tm 0))),(wB 3 (Cn 24 (tm 1))),(wB 4 (AA (O.c (V.b Bool.false))))]) gR)
theorem yd:AY Try.prog 14=⟨38,PQ,[(Rs.tmp (AV 4))]⟩:=by kernel_rfl
abbrev gY:CC:=(CC.seq (CC.region [(wB 2 (AA (O.c (V.s 0 0)))),(wB 3 (AA (O.c (V.b Bool.false))))]) CC.ret)
abbrev lV:CC:=(CC.cond (tm 7) gY CC.skip)
abbrev sm:CC:=(CC.seq (CC.region [(wB 5 (Ah 5 (tm 1))),(wB 6 (AW 16 [(tm 5)])),(wB 7 (CN (tm 6)))]) lV)
abbrev kY:CC:=(CC.cond (tm 9) (CC.region [(wB 4 (AA (O.c (V.s 1 1))))]) CC.skip)
abbrev oF:CC:=(CC.seq (CC.region [(wB 8 (AG 3 (tm 1))),(wB 9 (Aa (tm 8)))]) kY)
abbrev mH:CC:=(CC.seq (CC.Bg [(uB 10 (AG 0 (tm 1))),(uB 11 (Aa (tm 10))),(uB 12 (AW 22 [(tm 11)])),(uB 13 (AG 1 (tm 1))),(uB 14 (Aa (tm 13))),(uB 15 (AW 22 [(tm 14)])),(uB 16 (BE (tm 12) (tm 15))),(uB 17 (AG 2 (tm 1))),(uB 18 (Aa (tm 17))),(uB 19 (AW 22 [(tm 18)])),(uB 20 (BE (tm 16) (tm 19))),(uB 21 (AA (tm 4))),(uB 22 (BE (tm 20) (tm 21))),(uB 23 (AG 4 (tm 1))),(uB 24 (Aa (tm 23))),(wB 25 (AW 23 [(tm 24)])),(uB 26 (BE (tm 22) (tm 25))),(wB 27 (AW 21 [(tm 26)])),(uB 2 (AA (tm 27))),(uB 3 (AA (O.c (V.b Bool.true))))] (some ([2,5,9,15,17],[(1,[0]),(4,[0,3]),(8,[0,3,6]),(14,[0,3,6,10])]))) CC.ret)
abbrev mS:CC:=(CC.seq oF mH)
abbrev kj:CC:=(CC.seq (CC.region [(wB 4 (AA (O.c (V.s 1 0))))]) mS)
abbrev oI:CC:=(CC.seq sm kj)
abbrev PI:CC:=(CC.seq (CC.region [(wB 1 (Cn 24 (tm 0))),(wB 2 (AA (O.c (V.s 0 0)))),(wB 3 (AA (O.c (V.b Bool.false))))]) oI)
theorem xj:AY Try.prog 10=⟨28,PI,[(Rs.tmp (AV 2)),(Rs.tmp (AV 3))]⟩:=by kernel_rfl
abbrev jq:CC:=(CC.seq (CC.region [(wB 28 (B1 [(V.i IntKind.i64 (Int.ofNat 0)),(V.i IntKind.i64 (Int.ofNat 0)),(V.i IntKind.i64 (Int.ofNat 0)),(V.b Bool.false),V.l0] [])),(wB 29 (AA (tm 7))),(CO.mk G.none D.none Bool.true (CR.mk (Aq 5 (tm 2) (tm 28)))),(wB 3 (AA (oN 0))),(wB 4 (AA (tm 29)))]) CC.ret)
abbrev nd:CC:=(CC.cond (tm 27) jq CC.skip)
abbrev ic:CC:=(CC.seq (CC.region [(wB 26 (AA (tm 7))),(wB 27 (AX FI (tm 26) (oN 0)))]) nd)
abbrev pH:CC:=(CC.cond (tm 31) CC.skip (CC.exit 0))
abbrev oA:CC:=(CC.seq (CC.region [(wB 30 (AA (tm 10))),(wB 31 (AX Cr (tm 30) (oN 3)))]) pH)
abbrev jm:CC:=(CC.seq (CC.region [(wB 44 (B1 [(V.i IntKind.i64 (Int.ofNat 0)),(V.i IntKind.i64 (Int.ofNat 0)),(V.i IntKind.i64 (Int.ofNat 0)),(V.b Bool.false),V.l0] [])),(CO.mk G.none D.none Bool.true (CR.mk (Aq 5 (tm 2) (tm 44)))),(wB 3 (AA (oN 0))),(wB 4 (AA (oN 10)))]) CC.ret)
abbrev nH:CC:=(CC.cond (tm 43) jm CC.skip)
abbrev jN:CC:=(CC.seq (CC.region [(wB 42 (AA (tm 13))),(wB 43 (AX FI (tm 42) (oN 0)))]) nH)
abbrev nT:CC:=(CC.region [(wB 48 (AA (tm 9))),(wB 49 (AA (tm 12))),(wB 50 (AX By (tm 48) (tm 49))),(wB 9 (AA (tm 50)))])
abbrev iW:CC:=(CC.seq (CC.region [(wB 45 (AA (tm 10))),(wB 46 (AA (tm 11))),(wB 47 (BD 3 1 (tm 8) (tm 45))),(CO.mk G.none D.none Bool.true (CR.mk (Aq 1 (tm 47) (tm 46))))]) nT)
abbrev fA:CC:=(CC.seq jN iW)
abbrev ae:CC:=(CC.seq (CC.region [(wB 35 (AA (tm 5))),(wB 36 (AA (tm 9))),(wB 37 (Az (tm 35) (some (tm 36)) none)),(wB 38 (AW 27 [(tm 37)])),(wB 34 (AA (tm 38))),(wB 39 (AH 0 (tm 34))),(wB 40 (AH 1 (tm 34))),(wB 41 (AH 2 (tm 34))),(wB 11 (AA (tm 39))),(wB 12 (AA (tm 40))),(wB 13 (AA (tm 41)))]) fA)
abbrev dc:CC:=(CC.block 1 ae)
abbrev fP:CC:=(CC.region [(wB 32 (AA (tm 10))),(wB 33 (AX By (tm 32) (oN 1))),(wB 10 (AA (tm 33)))])
abbrev ZV:CC:=(CC.seq dc fP)
abbrev nZ:CC:=(CC.seq oA ZV)
abbrev dT:CC:=(CC.loop nZ)
abbrev cU:CC:=(CC.block 0 dT)
abbrev bq:CC:=(CC.seq (CC.region [(wB 10 (AA (oN 0)))]) cU)
abbrev fi:CC:=(CC.seq (CC.region [(wB 55 (B1 [(V.i IntKind.i64 (Int.ofNat 0)),(V.i IntKind.i64 (Int.ofNat 0)),(V.i IntKind.i64 (Int.ofNat 0)),(V.b Bool.false),V.l0] [])),(CO.mk G.none D.none Bool.true (CR.mk (Aq 5 (tm 2) (tm 55)))),(wB 3 (AA (oN 0))),(wB 4 (AA (oN 10)))]) CC.ret)
abbrev aT:CC:=(CC.cond (tm 54) fi CC.skip)
abbrev eu:CC:=(CC.seq (CC.region [(wB 51 (AA (tm 9))),(wB 52 (AA (tm 5))),(wB 53 (BH (tm 52))),(wB 54 (AX CY (tm 51) (tm 53)))]) aT)
abbrev br:CC:=(CC.seq (CC.region [(wB 95 (B1 [(V.i IntKind.i64 (Int.ofNat 0)),(V.i IntKind.i64 (Int.ofNat 0)),(V.i IntKind.i64 (Int.ofNat 0)),(V.b Bool.false),V.l0] [])),(CO.mk G.none D.none Bool.true (CR.mk (Aq 5 (tm 2) (tm 95)))),(wB 3 (AA (oN 0))),(wB 4 (AA (oN 10)))]) CC.ret)
abbrev bk:CC:=(CC.cond (tm 94) br CC.skip)
abbrev cK:CC:=(CC.seq (CC.region [(wB 82 (AA (tm 16))),(wB 83 (CN (tm 82))),(wB 84 (AA (tm 83))),(wG 84 false 85 (AA (tm 19))),(wG 84 false 86 (CN (tm 85))),(wB 87 (Ac (tm 84) (O.c (V.b Bool.true)) (tm 86))),(wB 88 (AA (tm 87))),(wG 88 false 89 (AA (tm 18))),(wG 88 false 90 (AA (tm 0))),(wG 88 false 91 (AA (tm 6))),(wG 88 false 92 (Az (tm 90) none (some (tm 91)))),(wG 88 false 93 (CM (fun a b c d=>!Fw a b c d) (tm 89) (tm 92))),(wB 94 (Ac (tm 88) (O.c (V.b Bool.true)) (tm 93)))]) bk)
abbrev YU:CC:=(CC.seq (CC.region [(wB 96 (Ah 5 (tm 17))),(wB 97 (AA (tm 6))),(CO.mk G.none D.none Bool.true (CR.mk (Aq 5 (tm 2) (tm 96)))),(wB 3 (AA (tm 97))),(wB 4 (AA (oN 0)))]) CC.ret)
abbrev Zm:CC:=(CC.seq cK YU)
abbrev Yr:CC:=(CC.seq (CC.region [(wB 78 (Ah 5 (tm 17))),(wB 79 (AW 10 [(tm 78)])),(wB 77 (AA (tm 79))),(wB 80 (AH 0 (tm 77))),(wB 81 (AH 1 (tm 77))),(wB 18 (AA (tm 80))),(wB 19 (AA (tm 81)))]) Zm)
abbrev ah:CC:=(CC.seq (CC.Bg [(uB 65 (BD 3 1 (tm 8) (oN 0))),(uB 66 (Aa (tm 65))),(uB 67 (BD 3 1 (tm 8) (oN 1))),(uB 68 (Aa (tm 67))),(uB 69 (BD 3 1 (tm 8) (oN 2))),(uB 70 (Aa (tm 69))),(uB 71 (AA (tm 5))),(uB 72 (AA (tm 9))),(uB 73 (B4 (tm 71) (tm 72))),(uB 74 (AX CY (tm 73) (O.c (V.i IntKind.u8 (Int.ofNat 1))))),(uB 75 (AA (tm 14))),(uB 76 (B1 [(V.i IntKind.i64 (Int.ofNat 0)),(V.i IntKind.i64 (Int.ofNat 0)),(V.i IntKind.i64 (Int.ofNat 0)),(V.b Bool.false),V.l0] [(Pt.mk 0 1 (tm 66)),(Pt.mk 1 1 (tm 68)),(Pt.mk 2 1 (tm 70)),(Pt.mk 3 1 (tm 74)),(Pt.mk 4 1 (tm 75))])),(uB 17 (BN 24 [(V.i IntKind.i64 (Int.ofNat 0)),(V.i IntKind.i64 (Int.ofNat 0)),(V.i IntKind.i64 (Int.ofNat 0)),(V.b Bool.false),V.l0])),(CO.mk G.none D.none Bool.true (CR.mk (Aq 5 (tm 17) (tm 76))))] (some ([12,13],[(1,[0,13]),(3,[0,13]),(5,[0,13])]))) Yr)
abbrev bJ:CC:=(CC.seq (CC.region [(wB 57 (AA (tm 5))),(wB 58 (AA (tm 9))),(wB 59 (AX By (tm 58) (oN 1))),(wB 60 (Az (tm 57) (some (tm 59)) none)),(wB 61 (AW 28 [(tm 60)])),(wB 56 (AA (tm 61))),(wB 62 (AH 0 (tm 56))),(wB 63 (AH 1 (tm 56))),(wB 64 (AH 2 (tm 56))),(wB 14 (AA (tm 62))),(wB 15 (AA (tm 63))),(wB 16 (AA (tm 64)))]) ah)
abbrev bP:CC:=(CC.seq eu bJ)
abbrev af:CC:=(CC.seq bq bP)
abbrev ZI:CC:=(CC.seq (CC.region [(wB 9 (AA (oN 0)))]) af)
abbrev bB:CC:=(CC.seq (CC.region [(wB 8 (BN 55 [(V.i IntKind.i64 (Int.ofNat 0)),(V.i IntKind.i64 (Int.ofNat 0)),(V.i IntKind.i64 (Int.ofNat 0))]))]) ZI)
abbrev bO:CC:=(CC.seq ic bB)
abbrev bF:CC:=(CC.seq (CC.region [(wB 21 (AA (tm 0))),(wB 22 (AW 26 [(tm 21)])),(wB 20 (AA (tm 22))),(wB 23 (AH 0 (tm 20))),(wB 24 (AH 1 (tm 20))),(wB 25 (AH 2 (tm 20))),(wB 5 (AA (tm 23))),(wB 6 (AA (tm 24))),(wB 7 (AA (tm 25)))]) bO)
abbrev w6:CC:=(CC.seq (CC.region [(wB 2 (BN 24 [(V.i IntKind.i64 (Int.ofNat 0)),(V.i IntKind.i64 (Int.ofNat 0)),(V.i IntKind.i64 (Int.ofNat 0)),(V.b Bool.false),V.l0])),(wB 3 (AA (oN 0))),(wB 4 (AA (oN 0)))]) bF)
theorem ye:AY Try.prog 12=⟨98,w6,[(Rs.HI (AV 2) 5),(Rs.tmp (AV 3)),(Rs.tmp (AV 4))]⟩:=by kernel_rfl
abbrev ug:CC:=(CC.cond (tm 8) CC.skip (CC.exit 0))
abbrev ve:CC:=(CC.seq (CC.region [(wB 4 (AA (tm 3))),(wB 5 (AG 4 (tm 1))),(wB 6 (Aa (tm 5))),(wB 7 (CG (tm 6))),(wB 8 (AX Cr (tm 4) (tm 7)))]) ug)
abbrev ub:CC:=(CC.seq (CC.region [(wB 2 (AA (O.c (V.b Bool.false))))]) CC.ret)
abbrev vg:CC:=(CC.cond (tm 28) ub CC.skip)
abbrev uf:CC:=(CC.seq (CC.region [(wB 11 (AG 4 (tm 1))),(wB 12 (Aa (tm 11))),(wB 13 (AA (tm 3))),(wB 14 (As 3 (tm 12) (tm 13))),(wB 15 (AG 0 (tm 14))),(wB 16 (Aa (tm 15))),(wB 17 (BH (tm 16))),(wB 18 (AX C6 (tm 17) (oN 20))),(wB 19 (AA (tm 18))),(wG 19 false 20 (AG 4 (tm 1))),(wG 19 false 21 (Aa (tm 20))),(wG 19 false 22 (AA (tm 3))),(wG 19 false 23 (As 3 (tm 21) (tm 22))),(wG 19 false 24 (AG 2 (tm 23))),(wG 19 false 25 (Aa (tm 24))),(wG 19 false 26 (BH (tm 25))),(wG 19 false 27 (AX C6 (tm 26) (oN 40))),(wB 28 (Ac (tm 19) (O.c (V.b Bool.true)) (tm 27)))]) vg)
abbrev ui:CC:=(CC.block 1 uf)
abbrev vb:CC:=(CC.region [(wB 9 (AA (tm 3))),(wB 10 (AX By (tm 9) (oN 1))),(wB 3 (AA (tm 10)))])
abbrev uX:CC:=(CC.seq ui vb)
abbrev um:CC:=(CC.seq ve uX)
abbrev uc:CC:=(CC.loop um)
abbrev uv:CC:=(CC.block 0 uc)
abbrev lW:CC:=(CC.seq (CC.region [(wB 3 (AA (oN 0)))]) uv)
abbrev lR:CC:=(CC.seq (CC.region [(wB 29 (AG 4 (tm 1))),(wB 30 (Aa (tm 29))),(wB 31 (CG (tm 30))),(wB 32 (AX Hn (tm 31) (oN 12))),(wB 2 (AA (tm 32)))]) CC.ret)
abbrev nj:CC:=(CC.seq lW lR)
abbrev b8:CC:=(CC.seq (CC.region [(wB 1 (Cn 24 (tm 0))),(wB 2 (AA (O.c (V.b Bool.false))))]) nj)
theorem c8:AY Try.prog 8=⟨33,b8,[(Rs.tmp (AV 2))]⟩:=by kernel_rfl
end Go.Proofs.Ytmlcddeikgechaa
set_option maxRecDepth 100000
set_option maxHeartbeats 8000000
namespace Go.Proofs.Ytmlcddeikgechaa
open Go Go.Ev
theorem S6 {x:Em} (h:¬(0<=x.lv/\x.lv<6/\1<=x.n/\x.n<=1000000/\0<=x.tn/\x.tn<=1000000)):F7 x=false:=by
 unfold F7 TP;rw[decide_eq_false h];rfl
theorem Tv {x:Em} (h:0<=x.lv/\x.lv<6/\1<=x.n/\x.n<=1000000/\0<=x.tn/\x.tn<=1000000):F7 x=(EC x.ws&&LJ x):=by
 unfold F7 TP;rw[decide_eq_true h];rfl
theorem Lv {L:List Bs} {i:Nat} (hi:i<L.length) (h:12<(L.getD i default).key.length):EC L=false:=by
 unfold EC
 refine List.all_eq_false.2 ⟨L.getD i default,?_,by rw[decide_eq_true_eq];omega⟩
 rw[show L.getD i default=L[i]by simp[List.getD,hi]];exact List.getElem_mem hi
theorem KE {L:List Bs} (h:∀ j,j<L.length->(L.getD j default).key.length<=12):EC L=true:=by
 rw[Ow]
 intro w hw
 obtain⟨i,hi,rfl⟩:=List.getElem_of_mem hw
 have:=h i hi
 rwa [show L.getD i default=L[i]by simp[List.getD,hi]]at this
theorem QG {x:Em} (h:x.sh=true):LJ x=decide (x.ws=[]):=by unfold LJ;rw[h];simp
theorem MJ {x:Em} (h:x.sh=false):LJ x=(decide (x.ws≠[])&&Ho x.ws):=by unfold LJ;rw[h];simp
theorem Kn {h:H} {v:V} {lv n tn:Int} {sh:Bool} {ws:List Bs} (hL:Ws h v ws) (hl:ws.length<=10000) (hf:B.val h.floor<=B.val h.next):BZ Try.prog 16 [.a [.i .i64 lv,.i .i64 n,.i .i64 tn,.b sh,v]] h fun y h'=>
 y=.b (F7 ⟨lv,n,tn,sh,ws⟩)/\AZ AM h h':=by
 refine BP xt (by intro hb;cases hb) (by simp) (by simp) fun Q hQ=>?_
 simp only[Ay,Nat.reduceAdd]
 repeat' (first
  |refine St.h ?_
  |simp(disch:=first|omega|(simp only[AJ];omega))only[AK,↓AB,↓reduceIte,seval]
  |(with_reducible (first|apply AD|apply AE))<;>(intro hc;(try simp only[AR]at hc);(try simp only[hc]);(try simp only[AQ]at hc);try omega))
 refine AL.own (by simp) hf fun h1 s1 n1 o1=>?_
 have hf1:=s1.fl hf
 have hL1:=hL.grow s1
 have r1:=o1.row
 by_cases hN:0<=lv/\lv<6/\1<=n/\n<=1000000/\0<=tn/\tn<=1000000
 case neg=>
  have hno:=S6 (x:=⟨lv,n,tn,sh,ws⟩) hN
  repeat' (first
   |refine St.h ?_
   |simp(disch:=first|omega|(simp only[AJ];omega))only[AK,↓AB,↓reduceIte,seval,r1.l1,r1.ln]
   |(with_reducible (first|apply AD|apply AE))<;>(intro hc;(try simp only[AR]at hc);(try simp only[hc]);(try simp only[AQ]at hc);try omega))
  all_goals first|(exfalso;omega)|(subst hQ;exact⟨by rw[hno],s1⟩)
 obtain⟨c1,c2,c3,c4,c5,c6⟩:=hN
 have hnm:=Tv (x:=⟨lv,n,tn,sh,ws⟩) ⟨c1,c2,c3,c4,c5,c6⟩
 repeat' (first
  |refine St.h ?_
  |simp(disch:=first|omega|(simp only[AJ];omega))only[AK,↓AB,↓reduceIte,seval,r1.l1,r1.ln]
  |(with_reducible (first|apply AD|apply AE))<;>(intro hc;(try simp only[AR]at hc);(try simp only[hc]);(try simp only[AQ]at hc);try omega))
 refine Ok.lp (fun m t g=>∃ j:Nat,m=ws.length-j/\j<=ws.length/\h1=g/\(∀ q,q<j->(ws.getD q default).key.length<=12)/\get 1 t=.p h.next 0 0 5/\get 3 t=.i .i64 (j:Int)) ws.length ?_ ?_
 ·simp(disch:=first|omega|(simp only[AJ];omega))only[AK,↓AB,↓reduceIte,seval]
  refine⟨0,by omega,by omega,?_⟩
  repeat' (first|trivial|rfl|(intro q hq;omega)|refine And.intro ?_ ?_)
 rintro I hI m t g ⟨j,rfl,hj,rfl,hk,f1,f3⟩
 by_cases hjl:j<ws.length
 ·by_cases hb:12<(ws.getD j default).key.length
  ·have hsh:=Lv hjl hb
   repeat' (first
    |refine St.h ?_
    |simp(disch:=first|omega|(simp only[AJ];omega))only[AK,↓AB,↓reduceIte,seval,f1,f3,r1.l1,hL1.ln,hL1.ix,hL1.l0,Int.toNat_natCast]
    |(with_reducible (first|apply AD|apply AE))<;>(intro hc;(try simp only[AR]at hc);(try simp only[hc]);(try simp only[AQ]at hc);try omega))
   subst hQ
   exact⟨by rw[hnm,hsh];rfl,s1⟩
  ·repeat' (first
    |refine St.h ?_
    |simp(disch:=first|omega|(simp only[AJ];omega))only[AK,↓AB,↓reduceIte,seval,f1,f3,r1.l1,hL1.ln,hL1.ix,hL1.l0,Int.toNat_natCast]
    |(with_reducible (first|apply AD|apply AE))<;>(intro hc;(try simp only[AR]at hc);(try simp only[hc]);(try simp only[AQ]at hc);try omega))
   refine Bq hI (ws.length-(j+1)) (by omega) ⟨j+1,rfl,by omega,rfl,fun q hq=>?_,?_,?_⟩
   ·by_cases e:q=j
    ·subst e;omega
    ·exact hk q (by omega)
   ·simp(disch:=first|omega|(simp only[AJ];omega))only[AK,↓AB,↓reduceIte,seval,f1]
   ·simp(disch:=first|omega|(simp only[AJ];omega))only[AK,↓AB,↓reduceIte,seval,f3];rfl
 obtain rfl:j=ws.length:=by omega
 have hsh:=KE hk
 have hws:ws=[]↔ws.length=0:=List.length_eq_zero_iff.symm
 cases sh with
 |true=>
  have hk1:=QG (x:=⟨lv,n,tn,true,ws⟩) rfl
  have e1:decide (ws=[])=decide ((ws.length:Int)=0):=decide_eq_decide.2 (by rw[hws];omega)
  repeat' (first
   |refine St.h ?_
   |simp(disch:=first|omega|(simp only[AJ];omega))only[AK,↓AB,↓reduceIte,seval,f1,f3,r1.l1,hL1.ln]
   |(with_reducible (first|apply AD|apply AE))<;>(intro hc;(try simp only[AR]at hc);(try simp only[hc]);(try simp only[AQ]at hc);try omega))
  ·subst hQ
   exact⟨by rw[hnm,hsh,hk1,decide_eq_true (hws.2 (by omega))];rfl,s1⟩
  ·subst hQ
   exact⟨by rw[hnm,hsh,hk1,decide_eq_false (fun e=>by have:=hws.1 e;omega)];rfl,s1⟩
 |false=>
  have hk1:=MJ (x:=⟨lv,n,tn,false,ws⟩) rfl
  repeat' (first
   |refine St.h ?_
   |simp(disch:=first|omega|(simp only[AJ];omega))only[AK,↓AB,↓reduceIte,seval,f1,f3,r1.l1,hL1.ln]
   |(with_reducible (first|apply AD|apply AE))<;>(intro hc;(try simp only[AR]at hc);(try simp only[hc]);(try simp only[AQ]at hc);try omega))
  ·have hne:ws≠[]:=fun e=>by have:=hws.1 e;omega
   refine CL.stay (Uz hL1 hl hf1) fun h2 s2=>?_
   repeat' (first
    |refine St.h ?_
    |simp(disch:=first|omega|(simp only[AJ];omega))only[AK,↓AB,↓reduceIte,seval]
    |(with_reducible (first|apply AD|apply AE))<;>(intro hc;(try simp only[AR]at hc);(try simp only[hc]);(try simp only[AQ]at hc);try omega))
   subst hQ
   exact⟨by rw[hnm,hsh,hk1,decide_eq_true hne];simp,s1.trans s2⟩
  ·have he:ws=[]:=hws.2 (by omega)
   subst hQ
   exact⟨by rw[hnm,hsh,hk1,decide_eq_false (fun e=>e he)];rfl,s1⟩
theorem Dg {h:H} {v w:V} {lv n tn lv2 m2 tn2:Int} {sh sh2:Bool} {L M:List Bs} (hL:Ws h v L) (hM:Ws h w M) (hl:L.length<=100000) (hm:M.length<=100000) (hf:B.val h.floor<=B.val h.next):
 BZ Try.prog 14 [.a [.i .i64 lv,.i .i64 n,.i .i64 tn,.b sh,v],.a [.i .i64 lv2,.i .i64 m2,.i .i64 tn2,.b sh2,w]] h fun y h'=>y=.b (decide ((⟨lv,n,tn,sh,L⟩:Em)=⟨lv2,m2,tn2,sh2,M⟩))/\AZ AM h h':=by
 refine BP yd (by intro hb;cases hb) (by simp) (by simp) fun Q hQ=>?_
 simp only[Ay,Nat.reduceAdd]
 repeat' (first
  |refine St.h ?_
  |simp(disch:=first|omega|(simp only[AJ];omega))only[AK,↓AB,↓reduceIte,seval]
  |(with_reducible (first|apply AD|apply AE))<;>(intro hc;(try simp only[AR]at hc);(try simp only[hc]);(try simp only[AQ]at hc);try omega))
 refine AL.own (by simp) hf fun h1 s1 n1 o1=>?_
 have hf1:=s1.fl hf
 repeat' (first
  |refine St.h ?_
  |simp(disch:=first|omega|(simp only[AJ];omega))only[AK,↓AB,↓reduceIte,seval]
  |(with_reducible (first|apply AD|apply AE))<;>(intro hc;(try simp only[AR]at hc);(try simp only[hc]);(try simp only[AQ]at hc);try omega))
 refine AL.own (by simp) hf1 fun h2 s2 n2 p2=>?_
 have o2:=o1.stay s2 fun e=>e
 have r1:=o2.row
 have r2:=p2.row
 have hL2:=(hL.grow s1).grow s2
 have hM2:=(hM.grow s1).grow s2
 have st:=s1.trans s2
 repeat' (first
  |refine St.h ?_
  |simp(disch:=first|omega|(simp only[AJ];omega))only[AK,↓AB,↓reduceIte,seval,r1.l1,r2.l1]
  |(with_reducible (first|apply AD|apply AE))<;>(intro hc;(try simp only[AR]at hc);(try simp only[hc]);(try simp only[AQ]at hc);try omega))
 ·refine CL.pure (O0 hL2 hM2 hl hm) ?_
  have e1:lv=lv2:=by assumption
  have e2:n=m2:=by assumption
  have e3:tn=tn2:=by assumption
  have e4:sh=sh2:=by simpa using hc
  repeat' (first
   |refine St.h ?_
   |simp(disch:=first|omega|(simp only[AJ];omega))only[AK,↓AB,↓reduceIte,seval]
   |(with_reducible (first|apply AD|apply AE))<;>(intro hc;(try simp only[AR]at hc);(try simp only[hc]);(try simp only[AQ]at hc);try omega))
  subst hQ e1 e2 e3 e4
  exact⟨congrArg V.b (decide_eq_decide.2 ⟨fun e=>by rw[e],fun e=>by injection e⟩),st⟩
 all_goals
  subst hQ
  exact⟨by rw[decide_eq_false (fun e=>by cases e;first|exact hc rfl|simp at hc)],st⟩
theorem Nd {h:H} {v:V} {lv n tn:Int} {sh:Bool} {ws:List Bs} (hL:Ws h v ws) (hl:ws.length<=9223372036854775807) (hf:B.val h.floor<=B.val h.next):BZ Try.prog 8 [.a [.i .i64 lv,.i .i64 n,.i .i64 tn,.b sh,v]] h fun y h'=>
 y=.b (OI ⟨lv,n,tn,sh,ws⟩)/\AZ AM h h':=by
 refine BP c8 (by intro hb;cases hb) (by simp) (by simp) fun Q hQ=>?_
 simp only[Ay,Nat.reduceAdd]
 repeat' (first
  |refine St.h ?_
  |simp(disch:=first|omega|(simp only[AJ];omega))only[AK,↓AB,↓reduceIte,seval]
  |(with_reducible (first|apply AD|apply AE))<;>(intro hc;(try simp only[AR]at hc);(try simp only[hc]);(try simp only[AQ]at hc);try omega))
 refine AL.own (by simp) hf fun h1 s1 n1 o1=>?_
 have hL1:=hL.grow s1
 have r1:=o1.row
 repeat' (first
  |refine St.h ?_
  |simp(disch:=first|omega|(simp only[AJ];omega))only[AK,↓AB,↓reduceIte,seval,r1.l1,r1.ln]
  |(with_reducible (first|apply AD|apply AE))<;>(intro hc;(try simp only[AR]at hc);(try simp only[hc]);(try simp only[AQ]at hc);try omega))
 refine Ok.lp (fun m t g=>∃ j:Nat,m=ws.length-j/\j<=ws.length/\h1=g/\(∀ q,q<j->okW (ws.getD q default)=true)/\get 1 t=.p h.next 0 0 5/\get 3 t=.i .i64 (j:Int)) ws.length ?_ ?_
 ·simp(disch:=first|omega|(simp only[AJ];omega))only[AK,↓AB,↓reduceIte,seval]
  refine⟨0,by omega,by omega,?_⟩
  repeat' (first|trivial|rfl|(intro q hq;omega)|refine And.intro ?_ ?_)
 rintro I hI m t g ⟨j,rfl,hj,rfl,hk,f1,f3⟩
 have okI:∀ w:Bs,okW w=decide (w.key.length<=20/\w.val.length<=40):=fun w=>by unfold okW;rw[Bool.decide_and]
 by_cases hjl:j<ws.length
 ·by_cases hb:(ws.getD j default).key.length<=20/\(ws.getD j default).val.length<=40
  ·obtain⟨b1,b2⟩:=hb
   repeat' (first
    |refine St.h ?_
    |simp(disch:=first|omega|(simp only[AJ];omega))only[AK,↓AB,↓reduceIte,seval,f1,f3,r1.l1,hL1.ln,hL1.ix,hL1.l0,hL1.l2,Int.toNat_natCast]
    |(with_reducible (first|apply AD|apply AE))<;>(intro hc;(try simp only[AR]at hc);(try simp only[hc]);(try simp only[AQ]at hc);try omega))
   refine Bq hI (ws.length-(j+1)) (by omega) ⟨j+1,rfl,by omega,rfl,fun q hq=>?_,?_,?_⟩
   ·by_cases e:q=j
    ·subst e;rw[okI];exact decide_eq_true ⟨b1,b2⟩
    ·exact hk q (by omega)
   ·simp(disch:=first|omega|(simp only[AJ];omega))only[AK,↓AB,↓reduceIte,seval,f1]
   ·simp(disch:=first|omega|(simp only[AJ];omega))only[AK,↓AB,↓reduceIte,seval,f3];rfl
  ·have hno:OI ⟨lv,n,tn,sh,ws⟩=false:=by
    unfold OI
    rw[show ws.all okW=false from List.all_eq_false.2 ⟨ws.getD j default,by rw[show ws.getD j default=ws[j]by simp[List.getD,hjl]];exact List.getElem_mem hjl,by rw[okI,decide_eq_false hb];simp⟩];rfl
   repeat' (first
    |refine St.h ?_
    |simp(disch:=first|omega|(simp only[AJ];omega))only[AK,↓AB,↓reduceIte,seval,f1,f3,r1.l1,hL1.ln,hL1.ix,hL1.l0,hL1.l2,Int.toNat_natCast]
    |(with_reducible (first|apply AD|apply AE))<;>(intro hc;(try simp only[AR]at hc);(try simp only[hc]);(try simp only[AQ]at hc);try omega))
   all_goals first|(exfalso;omega)|(subst hQ;exact⟨by rw[hno],s1⟩)
 obtain rfl:j=ws.length:=by omega
 have hall:ws.all okW=true:=List.all_eq_true.2 fun w hw=>by
  obtain⟨i,hi,rfl⟩:=List.getElem_of_mem hw
  have:=hk i hi
  rwa [show ws.getD i default=ws[i]by simp[List.getD,hi]]at this
 repeat' (first
  |refine St.h ?_
  |simp(disch:=first|omega|(simp only[AJ];omega))only[AK,↓AB,↓reduceIte,seval,f1,f3,r1.l1,hL1.ln]
  |(with_reducible (first|apply AD|apply AE))<;>(intro hc;(try simp only[AR]at hc);(try simp only[hc]);(try simp only[AQ]at hc);try omega))
 subst hQ
 exact⟨by unfold OI;rw[hall,Bool.true_and];exact congrArg V.b (decide_eq_decide.2 (by show _↔ws.length<=12;omega)),s1⟩
end Go.Proofs.Ytmlcddeikgechaa
namespace Go.Ev
open Go
section
variable {P:Program} {nt:Nat} {ops:Array Oper} {Ts:Nat->F}
/--operations that leave memory alone,and make the same of h and of h2 -/
def Hm (P:Program):List CO->F->H->H->F->Prop
 |[],t,_,_,t'=>t'=t
 |o::l,t,h,h2,t'=>∃ t1,Cu P o t h t1 h/\Cu P o t h2 t1 h2/\Hm P l t1 h h2 t'
theorem stepOf {nt:Nat} {ops:Array Oper} {i:Nat} {o:Oper} (hi:ops[i]? =some o) {b:Bool} {t t1:F} {h h1:H} (a:Cu P ⟨BJ nt ops.toList o.guard,Ce nt o.dst,b,AU P o.op⟩ t h t1 h1):BK P nt ops i o true t t1 h h1:=by
 have a':Up P ⟨BJ nt ops.toList o.guard,Ce nt o.dst,true,AU P o.op⟩ t h t1 h1:=a
 obtain⟨cf,hcf,e⟩:=Lt a'
 obtain⟨t1',h1',a1,a2⟩:=J1 hcf hi (ih:=fun t h k=>k t h) (k:=fun _ _=>true) (e _ _)
 obtain⟨rfl,rfl⟩:=Mo (fun k=>(e (fun t h k=>k t h) k).symm.trans (a1 k))
 exact a2
theorem FX {nt:Nat} {ops:Array Oper} (bars:Nat->Bool) {h h2:H}:∀ (l:List Oper) (n:Nat) (rest:List Oper),ops.toList.drop n=l++rest->∀ (t t':F),
 Hm P (AO bars P nt ops.toList (AU P) n l) t h h2 t'->
 ∃ Ts:Nat->F,Ts n=t/\Ts (n+l.length)=t'/\∀ (i:Nat) o,n<=i->i<n+l.length->ops[i]? =some o->BK P nt ops i o true (Ts i) (Ts (i+1)) h h/\BK P nt ops i o true (Ts i) (Ts (i+1)) h2 h2:=by
 intro l
 induction l with
 |nil=>
  intro n rest hl t t' hk
  obtain rfl:t'=t:=hk
  exact⟨fun _=>t',rfl,rfl,fun i o h1 h2=>by simp at h2;omega⟩
 |cons o l ih=>
  intro n rest hl t t' hk
  have hn:ops[n]? =some o:=by
   have:ops.toList[n]? =some o:=by
    have:=congrArg (fun l=>l[0]?) hl
    simpa using this
   simpa using this
  obtain⟨t1,k1,k2,k3⟩:=hk
  have hl':ops.toList.drop (n+1)=l++rest:=by rw[<-List.drop_drop,hl];rfl
  obtain⟨Ts,b1,b2,b3⟩:=ih (n+1) rest hl' _ _ k3
  refine⟨fun i=>if i=n then t else Ts i,by simp,?_,fun i oi h1 h2 hi=>?_⟩
  ·have e1:n+(o::l).length=n+1+l.length:=by simp;omega
   rw[e1]
   simp only[show ¬n+1+l.length=n by omega,if_false]
   exact b2
  ·by_cases hin:i=n
   ·subst hin
    rw[hn]at hi
    cases hi
    simp only[if_true,show ¬i+1=i by omega,if_false,b1]
    exact⟨stepOf hn k1,stepOf hn k2⟩
   ·simp only[hin,if_false,show ¬i+1=n by omega]
    exact b3 i oi (by omega) (by simp at h2;omega) hi
/--all but two leave memory alone;the second one comes behind all that touch it,or ahead of them -/
theorem WG (hm:P.follows .mixedOrders=true) {nt:Nat} {ops:Array Oper} (hd:Bx ops.toList=true) {t t1 t2 t3 t4 t5:F} {h h2 h3:H} {pre Ml rest:List CO} {A:CO} {g:G} {d:D} {r:CR}
 (el:AO (CI P ops.toList (CS ops.toList [])) P nt ops.toList (AU P) 0 ops.toList=pre++A::(Ml++.mk g d true r::rest))
 (p1:Hm P pre t h h2 t1) (p2:Cu P A t1 h t2 h2) (p3:Hm P Ml t2 h h2 t3) (p4:Cu P (.mk g d true r) t3 h2 t4 h3) (p5:Hm P rest t4 h3 h3 t5):Ak h h3/\B.val h.next<=B.val h3.next/\∀ ρ a w w0 (id:Nat) (Q:Exit->Act->World->Prop),CT ρ nt t a->Aw ρ h w w0->(∀ ρ' a' w',Ext h.floor ρ ρ'->CT ρ' nt t5 a'->Aw ρ' h3 w' w0->Q .normal a' w')->(Code.region id ops true).wp P Q a w:=by
 obtain⟨lp,l1,q1,q2,q3⟩:=HZ el
 obtain⟨oa,l2,rfl,q4,q5⟩:=GF q3
 obtain⟨lm,l3,rfl,q6,q7⟩:=HZ q5
 obtain⟨ob,lr,rfl,q8,q9⟩:=GF q7
 rw[Nat.zero_add]at q4 q6 q8 q9
 have hop:∀ (i:Nat) o,ops.toList[i]? =some o->ops[i]? =some o:=fun i o e=>by simpa using e
 generalize hb0:lp.length+1+lm.length=b at*
 have hn:ops.size=b+1+lr.length:=by have:=congrArg List.length q1;simp at this;omega
 have ha:ops[lp.length]? =some oa:=hop _ _ (by rw[q1];simp)
 have hb:ops[b]? =some ob:=hop _ _ (by rw[q1,<-hb0,List.getElem?_append_right (by omega),show lp.length+1+lm.length-lp.length=lm.length+1 by omega,List.getElem?_cons_succ];simp)
 obtain⟨T0,b1,b2,b3⟩:=FX (P:=P) (nt:=nt) (ops:=ops) (h:=h) (h2:=h2) _ lp 0 _ (by rw[List.drop_zero];exact q1) t t1 (by rw[q2];exact p1)
 rw[Nat.zero_add]at b2 b3
 obtain⟨T1,c1,c2,c3⟩:=FX (P:=P) (nt:=nt) (ops:=ops) (h:=h) (h2:=h2) _ lm (lp.length+1) _ (by rw[q1,<-List.drop_drop,List.drop_left];rfl) t2 t3 (by rw[q6];exact p3)
 obtain⟨T2,d1,d2,d3⟩:=FX (P:=P) (nt:=nt) (ops:=ops) (h:=h3) (h2:=h3) _ lr (b+1) [] (by rw[q1,<-hb0,List.append_nil,show lp.length+1+lm.length+1=lp.length+(1+(lm.length+1))by omega,<-List.drop_drop,List.drop_left,<-List.drop_drop,List.drop_one,List.tail_cons,<-List.drop_drop,List.drop_left];rfl) t4 t5 (by rw[q9];exact p5)
 rw[hb0]at c2 c3
 have hbar:CI P ops.toList (CS ops.toList []) b=true:=by
  injection q8 with _ _ e _
  exact e.symm
 have SA:=stepOf ha (by rw[q4]at p2;exact p2)
 have SB:=stepOf hb (by have e:=q8;rw[hbar]at e;rw[e]at p4;exact p4)
 let Ts:Nat->F:=fun i=>if i<=lp.length then T0 i else if i<=b then T1 i else T2 i
 have U0:∀ i,i<=lp.length->Ts i=T0 i:=fun i hi=>if_pos hi
 have U1:∀ i,lp.length<i->i<=b->Ts i=T1 i:=fun i hi hj=>by
  show(if _ then _ else _)=_
  rw[if_neg (by omega),if_pos hj]
 have U2:∀ i,b<i->Ts i=T2 i:=fun i hi=>by
  show(if _ then _ else _)=_
  rw[if_neg (by omega),if_neg (by omega)]
 have hA:∀ o,ops[lp.length]? =some o->BK P nt ops lp.length o true (Ts lp.length) (Ts (lp.length+1)) h h2:=fun o ho=>by
  rw[ha]at ho;cases ho
  rw[U0 _ (Nat.le_refl _),U1 _ (by omega) (by omega),b2,c1];exact SA
 have hB:∀ o,ops[b]? =some o->BK P nt ops b o true (Ts b) (Ts (b+1)) h2 h3:=fun o ho=>by
  rw[hb]at ho;cases ho
  rw[U1 _ (by omega) (Nat.le_refl _),U2 _ (by omega),c2,d1];exact SB
 obtain⟨f1,f2,f3⟩:=Vs (nt:=nt) (ops:=ops) (Ts:=Ts) (n:=lp.length) (p:=b) (h:=h) (h2:=h2) (h3:=h3) hm hd (by omega) (by omega) hbar
  (fun i o hi hne ho=>by
    by_cases e:i<lp.length
    ·rw[U0 i (by omega),U0 (i+1) (by omega)]
     exact b3 i o (Nat.zero_le _) e ho
    ·rw[U1 i (by omega) (by omega),U1 (i+1) (by omega) (by omega)]
     exact c3 i o (by omega) hi ho)
  (fun i o hi ho=>by
    have:i<ops.size:=(Array.getElem?_eq_some_iff.1 ho).1
    rw[U2 i hi,U2 (i+1) (by omega)]
    exact(d3 i o (by omega) (by omega) ho).1) hA hB
 exact⟨f1,f2,fun ρ a w w0 id Q A R hQ=>f3 ρ a w w0 id Q (by rw[U0 0 (Nat.zero_le _),b1];exact A) R (by rw[hn,U2 _ (by omega),d2];exact hQ)⟩
theorem Ok.xF (hm:P.follows .mixedOrders=true) {nt:Nat} {t t1 t2 t3 t4 t5:F} {h h2 h3:H} {K:X->F->H->Prop} {pre Ml rest:List CO} {A:CO} {g:G} {d:D} {r:CR} {ch:Option (List Nat×List (Nat×List Nat))}
 (p1:Hm P pre t h h2 t1) (p2:Cu P A t1 h t2 h2) (p3:Hm P Ml t2 h h2 t3) (p4:Cu P (.mk g d true r) t3 h2 t4 h3) (p5:Hm P rest t4 h3 h3 t5) (k:K .normal t5 h3):Ok P nt (.Bg (pre++A::(Ml++.mk g d true r::rest)) ch) t h K:=by
 refine⟨.normal,t5,h3,BV _ fun c e' hs=>?_,k⟩
 cases c with
 |region id ops draw=>
  have e1:Am P nt ops.toList draw=.Bg (pre++A::(Ml++.mk g d true r::rest)) ch:=e'
  obtain⟨rfl,hd,e1⟩:=I2 e1
  obtain⟨f1,f2,f3⟩:=WG hm hd (CC.Bg.inj e1).1 p1 p2 p3 p4 p5
  exact⟨f1,f2,fun ρ a w w0 Q A R hQ=>f3 ρ a w w0 id Q A R hQ⟩
 |scope d=>exact absurd rfl (hs d)
 |_=>cases e'
/--a region that Bg,where the walk stops -/
def DW (P:Program) (nt:Nat) (l:List CO) (t:F) (h:H) (K:X->F->H->Prop):Prop:=∀ ch,Ok P nt (.Bg l ch) t h K
theorem DW.gen (hm:P.follows .mixedOrders=true) {nt:Nat} {t t1 t2 t3 t4 t5:F} {h h2 h3:H} {K:X->F->H->Prop} {l pre Ml rest:List CO} {A:CO} {g:G} {d:D} {r:CR} (hl:l=pre++A::(Ml++.mk g d true r::rest))
 (p1:Hm P pre t h h2 t1) (p2:Cu P A t1 h t2 h2) (p3:Hm P Ml t2 h h2 t3) (p4:Cu P (.mk g d true r) t3 h2 t4 h3) (p5:Hm P rest t4 h3 h3 t5) (k:K .normal t5 h3):DW P nt l t h K:=by
 intro ch
 rw[hl]
 exact Ok.xF hm p1 p2 p3 p4 p5 k
theorem DW.two (hm:P.follows .mixedOrders=true) {nt:Nat} {t t1 t2 t3:F} {h h2 h3:H} {K:X->F->H->Prop} {l pre:List CO} {A:CO} {g:G} {d:D} {r:CR} (hl:l=pre++[A,.mk g d true r])
 (p1:Hm P pre t h h2 t1) (p2:Cu P A t1 h t2 h2) (p3:Cu P (.mk g d true r) t2 h2 t3 h3) (k:K .normal t3 h3):DW P nt l t h K:=DW.gen (Ml:=[]) (rest:=[]) hm hl p1 p2 rfl p3 rfl k
section
variable {r:CW} {t t':F} {h h1 h2:H} {v:V} {n:Nat} {b:Bool} {l:List CO}
theorem MT (a:H5 P (.mk r) t h v h1):Cu P (.mk .none (.some (AV n)) b (.mk r)) t h (put n v t) h1:=⟨true,fun _=>rfl,.inl ⟨rfl,v,a,fun k=>FH k⟩⟩
theorem We (a:H5 P (.mk r) t h v h1):Cu P (.mk .none .none b (.mk r)) t h t h1:=⟨true,fun _=>rfl,.inl ⟨rfl,v,a,fun k=>rfl⟩⟩
theorem ay {K:F->H->Prop} (a:OR P r t h (.w0 [] t K)):∃ v h',H5 P (.mk r) t h v h'/\K t h':=by
 obtain⟨v,h',rr,k⟩:=a
 rw[X4,JX]at k
 exact⟨v,h',rr,k⟩
theorem Qe (a:OR P r t h (.w 0 [] F.zero fun t' h'=>get 0 t'=v/\h'=h)):H5 P (.mk r) t h v h:=by
 obtain⟨v',h',rr,k⟩:=a
 rw[P2,JX,AB,if_pos rfl]at k
 obtain⟨rfl,rfl⟩:=k
 exact rr
end
end
end Go.Ev
namespace Go.Ev
open Go
section
variable {P:Program}
/--all but one leave memory alone -/
theorem Ok.xZ (hm:P.follows .mixedOrders=true) {nt:Nat} {t t1 t2 t3:F} {h h2:H} {K:X->F->H->Prop} {pre Ml:List CO} {A:CO} {ch:Option (List Nat×List (Nat×List Nat))}
 (p1:Hm P pre t h h2 t1) (p2:Cu P A t1 h t2 h2) (p3:Hm P Ml t2 h h2 t3) (k:K .normal t3 h2):Ok P nt (.Bg (pre++A::Ml) ch) t h K:=by
 refine⟨.normal,t3,h2,BV _ fun c e' hs=>?_,k⟩
 cases c with
 |region id ops draw=>
  have e1:Am P nt ops.toList draw=.Bg (pre++A::Ml) ch:=e'
  obtain⟨rfl,hd,e1⟩:=I2 e1
  obtain⟨lp,l1,q1,q2,q3⟩:=HZ (CC.Bg.inj e1).1
  obtain⟨oa,lm,rfl,q4,q6⟩:=GF q3
  rw[Nat.zero_add]at q4 q6
  have hop:∀ (i:Nat) o,ops.toList[i]? =some o->ops[i]? =some o:=fun i o e=>by simpa using e
  have hn:ops.size=lp.length+1+lm.length:=by have:=congrArg List.length q1;simp at this;omega
  have ha:ops[lp.length]? =some oa:=hop _ _ (by rw[q1];simp)
  obtain⟨T0,b1,b2,b3⟩:=FX (P:=P) (nt:=nt) (ops:=ops) (h:=h) (h2:=h2) _ lp 0 _ (by rw[List.drop_zero];exact q1) t t1 (by rw[q2];exact p1)
  rw[Nat.zero_add]at b2 b3
  obtain⟨T1,c1,c2,c3⟩:=FX (P:=P) (nt:=nt) (ops:=ops) (h:=h) (h2:=h2) _ lm (lp.length+1) [] (by rw[q1,<-List.drop_drop,List.drop_left,List.append_nil];rfl) t2 t3 (by rw[q6];exact p3)
  have SA:=stepOf ha (by rw[q4]at p2;exact p2)
  let Ts:Nat->F:=fun i=>if i<=lp.length then T0 i else T1 i
  have U0:∀ i,i<=lp.length->Ts i=T0 i:=fun i hi=>if_pos hi
  have U1:∀ i,lp.length<i->Ts i=T1 i:=fun i hi=>by
   show(if _ then _ else _)=_
   rw[if_neg (by omega)]
  have hA:∀ o,ops[lp.length]? =some o->BK P nt ops lp.length o true (Ts lp.length) (Ts (lp.length+1)) h h2:=fun o ho=>by
   rw[ha]at ho;cases ho
   rw[U0 _ (Nat.le_refl _),U1 _ (by omega),b2,c1];exact SA
  have hq:∀ (i:Nat) o,i≠lp.length->ops[i]? =some o->BK P nt ops i o true (Ts i) (Ts (i+1)) h h/\BK P nt ops i o true (Ts i) (Ts (i+1)) h2 h2:=fun i o hne ho=>by
   have hi:i<ops.size:=(Array.getElem?_eq_some_iff.1 ho).1
   by_cases e:i<lp.length
   ·rw[U0 i (by omega),U0 (i+1) (by omega)]
    exact b3 i o (Nat.zero_le _) e ho
   ·rw[U1 i (by omega),U1 (i+1) (by omega)]
    exact c3 i o (by omega) (by omega) ho
  have hs:ZY nt ops Ts:=fun i o ho=>by
   have S:∃ g g',BK P nt ops i o true (Ts i) (Ts (i+1)) g g':=by
    by_cases e:i=lp.length
    ·subst e;exact⟨_,_,hA o ho⟩
    ·exact⟨_,_,(hq i o e ho).1⟩
   obtain⟨g,g',S⟩:=S
   exact⟨S.dst,S.rest⟩
  let Hs:Nat->H:=fun i=>if i<=lp.length then h else h2
  have V0:∀ i,i<=lp.length->Hs i=h:=fun i hi=>if_pos hi
  have V1:∀ i,lp.length<i->Hs i=h2:=fun i h1=>if_neg (by omega)
  have R:=KM (nt:=nt) (ops:=ops) (Ts:=Ts) (Hs:=Hs) (lo:=fun k=>k=lp.length) hm hd hs (fun i j hi hj hij _=>by omega)
   (fun i o hi ho=>by
     have hi:i=lp.length:=hi
     subst hi
     rw[V0 _ (Nat.le_refl _),V1 _ (by omega)];exact hA o ho)
   (fun i hi hl=>by
     have hl:¬i=lp.length:=hl
     by_cases e:i<lp.length
     ·rw[V0 _ (by omega),V0 _ (by omega)]
     ·rw[V1 _ (by omega),V1 _ (by omega)])
   (fun i o hl ho=>by
     obtain⟨x1,x2⟩:=hq i o hl ho
     refine⟨⟨_,_,x1⟩,.inr fun c _ _ _=>?_⟩
     by_cases e:c<=lp.length
     ·rw[V0 _ e];exact x1
     ·rw[V1 _ (by omega)];exact x2)
  rw[V0 0 (Nat.zero_le _),V1 ops.size (by omega)]at R
  obtain⟨f1,f2,f3⟩:=R
  exact⟨f1,f2,fun ρ a w w0 Q A R hQ=>f3 ρ a w w0 id Q (by rw[U0 0 (Nat.zero_le _),b1];exact A) R (by rw[hn,U1 _ (by omega),c2];exact hQ)⟩
 |scope d=>exact absurd rfl (hs d)
 |_=>cases e'
theorem DW.one (hm:P.follows .mixedOrders=true) {nt:Nat} {t t1 t2 t3:F} {h h2:H} {K:X->F->H->Prop} {l pre Ml:List CO} {A:CO} (hl:l=pre++A::Ml)
 (p1:Hm P pre t h h2 t1) (p2:Cu P A t1 h t2 h2) (p3:Hm P Ml t2 h h2 t3) (k:K .normal t3 h2):DW P nt l t h K:=by
 intro ch
 rw[hl]
 exact Ok.xZ hm p1 p2 p3 k
theorem JZ {nt:Nat} {ops:List Oper} {o:Oper} {b:Bool} {t t1:F} {h h1:H} (hq:quiet P o.op=true) (a:Cu P ⟨BJ nt ops o.guard,Ce nt o.dst,b,AU P o.op⟩ t h t1 h1):h1=h:=by
 obtain⟨c,_,a⟩:=a
 rcases a with⟨_,v,⟨cf,hcf,e⟩,_⟩|⟨_,e,_⟩
 ·exact Im hq hcf e
 ·exact e
theorem JB {nt:Nat} {ops:Array Oper} (bars:Nat->Bool) {h:H}:∀ (l:List Oper) (n:Nat) (rest:List Oper),ops.toList.drop n=l++rest->(∀ o∈l,quiet P o.op=true)->∀ (t t':F) (h':H),
 Mh P (AO bars P nt ops.toList (AU P) n l) t h t' h'->
 h'=h/\∃ Ts:Nat->F,Ts n=t/\Ts (n+l.length)=t'/\∀ (i:Nat) o,n<=i->i<n+l.length->ops[i]? =some o->BK P nt ops i o true (Ts i) (Ts (i+1)) h h:=by
 intro l
 induction l with
 |nil=>
  intro n rest hl _ t t' h' hk
  obtain⟨rfl,rfl⟩:=hk
  exact⟨rfl,fun _=>t',rfl,rfl,fun i o h1 h2=>by simp at h2;omega⟩
 |cons o l ih=>
  intro n rest hl hq t t' h' hk
  have hn:ops[n]? =some o:=by
   have:ops.toList[n]? =some o:=by
    have:=congrArg (fun l=>l[0]?) hl
    simpa using this
   simpa using this
  obtain⟨t1,h1,k1,k2⟩:=hk
  obtain rfl:=JZ (hq o (by simp)) k1
  have hl':ops.toList.drop (n+1)=l++rest:=by rw[<-List.drop_drop,hl];rfl
  obtain⟨e,Ts,b1,b2,b3⟩:=ih (n+1) rest hl' (fun x hx=>hq x (List.mem_cons_of_mem _ hx)) _ _ _ k2
  refine⟨e,fun i=>if i=n then t else Ts i,by simp,?_,fun i oi h1 h2 hi=>?_⟩
  ·have e1:n+(o::l).length=n+1+l.length:=by simp;omega
   rw[e1]
   simp only[show ¬n+1+l.length=n by omega,if_false]
   exact b2
  ·by_cases hin:i=n
   ·subst hin
    rw[hn]at hi
    cases hi
    simp only[if_true,show ¬i+1=i by omega,if_false,b1]
    exact stepOf hn k1
   ·simp only[hin,if_false,show ¬i+1=n by omega]
    exact b3 i oi (by omega) (by simp at h2;omega) hi
/--two that write,A and B;one that reads,o,may come ahead of A or behind it -/
theorem Ok.float (hm:P.follows .mixedOrders=true) {nt:Nat} {t:F} {h:H} {K:X->F->H->Prop} {l L1 L2 L3:List CO} {o A B:CO} {ld:List Nat} {cs:List (Nat×List Nat)} {n p:Nat} (hl:l=L1++o::(L2++A::(L3++[B])))
 (hn:n=L1.length+1+L2.length) (hp:p=n+1+L3.length) (hlo:ld=[n,p])
 (hcs:cs.all (fun q=>(decide (q.1=L1.length)&&q.2.all fun j=>decide (j<=p))||((decide (q.1≠L1.length/\q.1<n)&&q.2.all fun j=>decide (j<=n))||(decide (n<q.1/\q.1<p)&&q.2.all fun j=>decide (n<j/\j<=p))))=true)
 (k:WO P L1 t h fun t1 _=>∃ t2,Cu P o t1 h t2 h/\WO P L2 t2 h fun t3 _=>∃ t4 h2,Cu P A t3 h t4 h2/\Cu P o t1 h2 t2 h2/\WO P L3 t4 h2 fun t5 _=>∃ t6 h3,Cu P B t5 h2 t6 h3/\K .normal t6 h3):Ok P nt (.Bg l (some (ld,cs))) t h K:=by
 obtain⟨t1,g1,k1,t2,k2,t3,g3,k3,t4,h2,k4,k5,t5,g5,k6,t6,h3,k7,kk⟩:=k
 refine⟨.normal,t6,h3,BV _ fun c e' hs=>?_,kk⟩
 cases c with
 |region id ops draw=>
  have e1:Am P nt ops.toList draw=.Bg l (some (ld,cs)):=e'
  obtain⟨rfl,hd,e1⟩:=I2 e1
  obtain⟨e2,ec⟩:=CC.Bg.inj e1
  rw[hl]at e2
  obtain⟨l1,r1,q1,q2,q3⟩:=HZ e2
  obtain⟨oo,r2,rfl,q4,q5⟩:=GF q3
  obtain⟨l2,r3,rfl,q6,q7⟩:=HZ q5
  obtain⟨oa,r4,rfl,q8,q9⟩:=GF q7
  obtain⟨l3,r5,rfl,q10,q11⟩:=HZ q9
  obtain⟨ob,r6,rfl,q12,q13⟩:=GF q11
  have cl:∀ (bars:Nat->Bool) (l:List Oper) (n:Nat),(AO bars P nt ops.toList (AU P) n l).length=l.length:=by
   intro bars l
   induction l with
   |nil=>intro n;rfl
   |cons o l ih=>intro n;show(AO bars P nt ops.toList (AU P) (n+1) l).length+1=_;rw[ih];rfl
  have c1:L1.length=l1.length:=by rw[<-q2,cl]
  have c2:L2.length=l2.length:=by rw[<-q6,cl]
  have c3:L3.length=l3.length:=by rw[<-q10,cl]
  obtain rfl:r6=[]:=by
   cases r6 with
   |nil=>rfl
   |cons x r=>have:=congrArg List.length q13;rw[cl]at this;simp at this
  rw[c1]at hcs
  rw[Nat.zero_add]at q4 q6 q8 q10 q12
  obtain rfl:n=l1.length+1+l2.length:=by omega
  obtain rfl:p=l1.length+1+l2.length+1+l3.length:=by omega
  have hsz:ops.size=l1.length+1+l2.length+1+l3.length+1:=by have:=congrArg List.length q1;simp at this;omega
  have hop:∀ (i:Nat) o,ops.toList[i]? =some o->ops[i]? =some o:=fun i o e=>by simpa using e
  have gl:∀ i:Nat,ops.toList[i]? =(l1++oo::(l2++oa::(l3++[ob])))[i]? :=fun i=>by rw[q1]
  have ho:ops[l1.length]? =some oo:=hop _ _ (by rw[gl];simp)
  have ha:ops[l1.length+1+l2.length]? =some oa:=hop _ _ (by rw[gl,List.getElem?_append_right (by omega),show l1.length+1+l2.length-l1.length=l2.length+1 by omega,List.getElem?_cons_succ];simp)
  have hb:ops[l1.length+1+l2.length+1+l3.length]? =some ob:=hop _ _ (by rw[gl,List.getElem?_append_right (by omega),show l1.length+1+l2.length+1+l3.length-l1.length=(l2.length+1+l3.length)+1 by omega,List.getElem?_cons_succ,List.getElem?_append_right (by omega),show l2.length+1+l3.length-l2.length=l3.length+1 by omega,List.getElem?_cons_succ];simp)
  have hld:ld=Bw P 0 ops.toList:=by
   unfold Eo at ec
   split at ec
   ·cases ec;rfl
   ·cases ec
  rw[hlo]at hld
  have hqt:∀ (i:Nat) x,ops[i]? =some x->i≠l1.length+1+l2.length->i≠l1.length+1+l2.length+1+l3.length->quiet P x.op=true:=fun i x hx n1 n2=>by
   cases hq:quiet P x.op with
   |true=>rfl
   |false=>
    have:i∈Bw P 0 ops.toList:=GH.2 ⟨i,x,by omega,(Array.getElem?_toList (xs:=ops) (i:=i)).trans hx,hq⟩
    rw[<-hld]at this
    simp only[List.mem_cons,List.not_mem_nil,or_false]at this
    omega
  have hlq:∀ (i:Nat) x,ops[i]? =some x->quiet P x.op=true->i≠l1.length+1+l2.length/\i≠l1.length+1+l2.length+1+l3.length:=fun i x hx hq=>by
   have no:i∉Bw P 0 ops.toList:=fun hi=>by
    obtain⟨j,y,e1,e2,e3⟩:=GH.1 hi
    have e4:ops[j]? =some y:=hop _ _ e2
    rw[show j=i by omega,hx]at e4
    cases e4;rw[hq]at e3;cases e3
   rw[<-hld]at no
   simp only[List.mem_cons,List.not_mem_nil,or_false,not_or]at no
   exact no
  have Q1:∀ x∈l1,quiet P x.op=true:=fun x hx=>by
   obtain⟨i,hi,e⟩:=List.mem_iff_getElem.1 hx
   exact hqt i x (hop _ _ (by rw[gl,List.getElem?_append_left hi,List.getElem?_eq_getElem hi,e])) (by omega) (by omega)
  have Q2:∀ x∈l2,quiet P x.op=true:=fun x hx=>by
   obtain⟨i,hi,e⟩:=List.mem_iff_getElem.1 hx
   exact hqt (l1.length+1+i) x (hop _ _ (by rw[gl,List.getElem?_append_right (by omega),show l1.length+1+i-l1.length=i+1 by omega,List.getElem?_cons_succ,List.getElem?_append_left hi,List.getElem?_eq_getElem hi,e])) (by omega) (by omega)
  have Q3:∀ x∈l3,quiet P x.op=true:=fun x hx=>by
   obtain⟨i,hi,e⟩:=List.mem_iff_getElem.1 hx
   exact hqt (l1.length+1+l2.length+1+i) x (hop _ _ (by rw[gl,List.getElem?_append_right (by omega),show l1.length+1+l2.length+1+i-l1.length=(l2.length+1+i)+1 by omega,List.getElem?_cons_succ,List.getElem?_append_right (by omega),show l2.length+1+i-l2.length=i+1 by omega,List.getElem?_cons_succ,List.getElem?_append_left hi,List.getElem?_eq_getElem hi,e])) (by omega) (by omega)
  have d1:ops.toList.drop (l1.length+1)=l2++(oa::(l3++[ob])):=by rw[q1,<-List.drop_drop,List.drop_left];rfl
  have d2:ops.toList.drop (l1.length+1+l2.length+1)=l3++[ob]:=by rw[<-List.drop_drop,<-List.drop_drop,d1,List.drop_left];rfl
  obtain⟨z1,T1,a1,a2,a3⟩:=JB (P:=P) (nt:=nt) (ops:=ops) (h:=h) _ l1 0 _ (by rw[List.drop_zero];exact q1) Q1 t t1 g1 (by rw[q2];exact k1)
  rw[Nat.zero_add]at a2 a3
  obtain⟨z2,T2,b1,b2,b3⟩:=JB (P:=P) (nt:=nt) (ops:=ops) (h:=h) _ l2 (l1.length+1) _ d1 Q2 t2 t3 g3 (by rw[q6];exact k3)
  obtain⟨z3,T3,c4,c5,c6⟩:=JB (P:=P) (nt:=nt) (ops:=ops) (h:=h2) _ l3 (l1.length+1+l2.length+1) _ d2 Q3 t4 t5 g5 (by rw[q10];exact k6)
  rw[q4]at k2 k5
  rw[q8]at k4
  rw[q12]at k7
  let Ts:Nat->F:=fun i=>if i<=l1.length then T1 i else if i<=l1.length+1+l2.length then T2 i else if i<=l1.length+1+l2.length+1+l3.length then T3 i else t6
  let Hs:Nat->H:=fun i=>if i<=l1.length+1+l2.length then h else if i<=l1.length+1+l2.length+1+l3.length then h2 else h3
  have U1:∀ i,i<=l1.length->Ts i=T1 i:=fun i hi=>if_pos hi
  have U2:∀ i,l1.length<i->i<=l1.length+1+l2.length->Ts i=T2 i:=fun i hi hj=>by
   show(if _ then _ else _)=_
   rw[if_neg (by omega),if_pos hj]
  have U3:∀ i,l1.length+1+l2.length<i->i<=l1.length+1+l2.length+1+l3.length->Ts i=T3 i:=fun i hi hj=>by
   show(if _ then _ else _)=_
   rw[if_neg (by omega),if_neg (by omega),if_pos hj]
  have U4:∀ i,l1.length+1+l2.length+1+l3.length<i->Ts i=t6:=fun i hi=>by
   show(if _ then _ else _)=_
   rw[if_neg (by omega),if_neg (by omega),if_neg (by omega)]
  have V1:∀ i,i<=l1.length+1+l2.length->Hs i=h:=fun i hi=>if_pos hi
  have V2:∀ i,l1.length+1+l2.length<i->i<=l1.length+1+l2.length+1+l3.length->Hs i=h2:=fun i hi hj=>by
   show(if _ then _ else _)=_
   rw[if_neg (by omega),if_pos hj]
  have V3:∀ i,l1.length+1+l2.length+1+l3.length<i->Hs i=h3:=fun i hi=>by
   show(if _ then _ else _)=_
   rw[if_neg (by omega),if_neg (by omega)]
  have So:BK P nt ops l1.length oo true (Ts l1.length) (Ts (l1.length+1)) h h/\BK P nt ops l1.length oo true (Ts l1.length) (Ts (l1.length+1)) h2 h2:=by
   rw[U1 _ (Nat.le_refl _),U2 _ (by omega) (by omega),a2,b1]
   exact⟨stepOf ho k2,stepOf ho k5⟩
  have Sq:∀ (i:Nat) x,ops[i]? =some x->i≠l1.length+1+l2.length->i≠l1.length+1+l2.length+1+l3.length->BK P nt ops i x true (Ts i) (Ts (i+1)) (Hs i) (Hs i):=fun i x hx n1 n2=>by
   have hi:i<ops.size:=(Array.getElem?_eq_some_iff.1 hx).1
   by_cases e1:i<l1.length
   ·rw[U1 _ (by omega),U1 _ (by omega),V1 _ (by omega)];exact a3 i x (Nat.zero_le _) e1 hx
   ·by_cases e2:i=l1.length
    ·subst e2
     rw[ho]at hx;cases hx
     rw[V1 _ (by omega)];exact So.1
    ·by_cases e3:i<l1.length+1+l2.length
     ·rw[U2 _ (by omega) (by omega),U2 _ (by omega) (by omega),V1 _ (by omega)];exact b3 i x (by omega) e3 hx
     ·rw[U3 _ (by omega) (by omega),U3 _ (by omega) (by omega),V2 _ (by omega) (by omega)];exact c6 i x (by omega) (by omega) hx
  obtain⟨f1,f2,f3⟩:=KY (nt:=nt) (ops:=ops) (Ts:=Ts) (Hs:=Hs) hm hd ec
   (fun i x hx=>by
     by_cases n1:i=l1.length+1+l2.length
     ·subst n1
      rw[ha]at hx;cases hx
      refine⟨?_,fun hq=>absurd rfl (hlq _ _ ha hq).1⟩
      rw[U2 _ (by omega) (Nat.le_refl _),U3 _ (by omega) (by omega),V1 _ (Nat.le_refl _),V2 _ (by omega) (by omega),b2,c4]
      exact stepOf ha k4
     ·by_cases n2:i=l1.length+1+l2.length+1+l3.length
      ·subst n2
       rw[hb]at hx;cases hx
       refine⟨?_,fun hq=>absurd rfl (hlq _ _ hb hq).2⟩
       rw[U3 _ (by omega) (Nat.le_refl _),U4 _ (by omega),V2 _ (by omega) (Nat.le_refl _),V3 _ (by omega),c5]
       exact stepOf hb k7
      ·have same:Hs (i+1)=Hs i:=by
        have hi:i<ops.size:=(Array.getElem?_eq_some_iff.1 hx).1
        by_cases e:i<l1.length+1+l2.length
        ·rw[V1 _ (by omega),V1 _ (by omega)]
        ·rw[V2 _ (by omega) (by omega),V2 _ (by omega) (by omega)]
       exact⟨by rw[same];exact Sq i x hx n1 n2,fun _=>same⟩)
   (fun q hq x hx j hj=>by
     have:=List.all_eq_true.1 hcs q hq
     simp only[Bool.or_eq_true,Bool.and_eq_true,decide_eq_true_eq,List.all_eq_true]at this
     rcases this with⟨e1,e2⟩|⟨⟨e1,e3⟩,e2⟩|⟨⟨e1,e3⟩,e2⟩
     ·rw[e1]at hx⊢
      rw[ho]at hx;cases hx
      have:=e2 j hj
      by_cases e:j<=l1.length+1+l2.length
      ·rw[V1 _ e];exact So.1
      ·rw[V2 _ (by omega) this];exact So.2
     ·have:=Sq q.1 x hx (by omega) (by omega)
      rw[V1 _ (by omega)]at this
      rw[V1 _ (e2 j hj)];exact this
     ·have:=Sq q.1 x hx (by omega) (by omega)
      rw[V2 _ e1 (by omega)]at this
      have h9:=e2 j hj
      rw[V2 _ h9.1 h9.2];exact this)
  rw[V1 0 (Nat.zero_le _),V3 ops.size (by omega)]at f1 f2 f3
  exact⟨f1,f2,fun ρ a w w0 Q A R hQ=>f3 ρ a w w0 id Q (by rw[U1 0 (Nat.zero_le _),a1];exact A) R (by rw[U4 ops.size (by omega)];exact hQ)⟩
 |scope d=>exact absurd rfl (hs d)
 |_=>cases e'
end
end Go.Ev
set_option maxRecDepth 100000
namespace Go.Ev
open Go
section
variable {P:Program} {q:List Nat} {p:Nat} {R:H->Prop}
/--from the n-th operation on:those of q float;R holds up to the p-th -/
def Np (P:Program) (q:List Nat) (p:Nat) (R:H->Prop):List CO->Nat->F->H->(F->H->Prop)->Prop
 |[],_,t,h,K=>K t h
 |o::l,n,t,h,K=>∃ t1 h1,Cu P o t h t1 h1/\(n+1<=p->R h1)/\(n∈q->∀ g,R g->Cu P o t g t1 g)/\Np P q p R l (n+1) t1 h1 K
theorem SP {nt:Nat} {ops:Array Oper} (bars:Nat->Bool) {K:F->H->Prop}:∀ (l:List Oper) (n:Nat) (rest:List Oper),ops.toList.drop n=l++rest->∀ (t:F) (h:H),
 Np P q p R (AO bars P nt ops.toList (AU P) n l) n t h K->
 ∃ (Ts:Nat->F) (Hs:Nat->H),Ts n=t/\Hs n=h/\K (Ts (n+l.length)) (Hs (n+l.length))/\∀ (i:Nat) o,n<=i->i<n+l.length->ops[i]? =some o->
  BK P nt ops i o true (Ts i) (Ts (i+1)) (Hs i) (Hs (i+1))/\(quiet P o.op=true->Hs (i+1)=Hs i)/\(i+1<=p->R (Hs (i+1)))/\(i∈q->∀ g,R g->BK P nt ops i o true (Ts i) (Ts (i+1)) g g):=by
 intro l
 induction l with
 |nil=>
  intro n rest hl t h hk
  exact⟨fun _=>t,fun _=>h,rfl,rfl,hk,fun i o h1 h2=>by simp at h2;omega⟩
 |cons o l ih=>
  intro n rest hl t h hk
  have hn:ops[n]? =some o:=by
   have:ops.toList[n]? =some o:=by
    have:=congrArg (fun l=>l[0]?) hl
    simpa using this
   simpa using this
  obtain⟨t1,h1,k1,k2,k3,k4⟩:=hk
  have hl':ops.toList.drop (n+1)=l++rest:=by rw[<-List.drop_drop,hl];rfl
  obtain⟨Ts,Hs,b1,b2,b3,b4⟩:=ih (n+1) rest hl' _ _ k4
  have e1:n+(o::l).length=n+1+l.length:=by simp;omega
  refine⟨fun i=>if i=n then t else Ts i,fun i=>if i=n then h else Hs i,by simp,by simp,?_,fun i oi h1' h2' hi=>?_⟩
  ·rw[e1]
   simp only[show ¬n+1+l.length=n by omega,if_false]
   exact b3
  ·by_cases hin:i=n
   ·subst hin
    rw[hn]at hi
    cases hi
    simp only[if_true,show ¬i+1=i by omega,if_false,b1,b2]
    exact⟨stepOf hn k1,fun hq=>JZ hq k1,k2,fun e g hg=>stepOf hn (k3 e g hg)⟩
   ·simp only[hin,if_false,show ¬i+1=n by omega]
    exact b4 i oi (by omega) (by rw[e1]at h2';omega) hi
theorem Ok.JU (hm:P.follows .mixedOrders=true) {nt:Nat} {t:F} {h:H} {K:X->F->H->Prop} {l:List CO} {ld:List Nat} {cs:List (Nat×List Nat)} (q:List Nat) (p:Nat) (R:H->Prop)
 (hcs:cs.all (fun c=>decide (c.1∈q)&&c.2.all fun j=>decide (j<=p))=true) (hp:p<=l.length) (hR:R h) (k:Np P q p R l 0 t h fun t' h'=>K .normal t' h'):Ok P nt (.Bg l (some (ld,cs))) t h K:=by
 have ex:∃ t' h',K .normal t' h'/\Np P q p R l 0 t h fun t1 h1=>t1=t'/\h1=h':=by
  have:∀ (l:List CO) (n:Nat) (t:F) (h:H) (K:F->H->Prop),Np P q p R l n t h K->∃ t' h',K t' h'/\Np P q p R l n t h fun t1 h1=>t1=t'/\h1=h':=by
   intro l
   induction l with
   |nil=>intro n t h K hk;exact⟨t,h,hk,rfl,rfl⟩
   |cons o l ih=>
    intro n t h K hk
    obtain⟨t1,h1,k1,k2,k3,k4⟩:=hk
    obtain⟨t',h',a,b⟩:=ih _ _ _ _ k4
    exact⟨t',h',a,t1,h1,k1,k2,k3,b⟩
  exact this l 0 t h _ k
 obtain⟨t',h',kk,k⟩:=ex
 refine⟨.normal,t',h',BV _ fun c e' hs=>?_,kk⟩
 cases c with
 |region id ops draw=>
  have e1:Am P nt ops.toList draw=.Bg l (some (ld,cs)):=e'
  obtain⟨rfl,hd,e1⟩:=I2 e1
  ·skip
   ·skip
    obtain⟨e2,ec⟩:=CC.Bg.inj e1
    have cl:∀ (bars:Nat->Bool) (l:List Oper) (n:Nat),(AO bars P nt ops.toList (AU P) n l).length=l.length:=by
     intro bars l
     induction l with
     |nil=>intro n;rfl
     |cons o l ih=>intro n;show(AO bars P nt ops.toList (AU P) (n+1) l).length+1=_;rw[ih];rfl
    have hlen:l.length=ops.size:=by rw[<-e2,cl,Array.length_toList]
    rw[<-e2]at k
    obtain⟨Ts,Hs,b1,b2,⟨b3,b3'⟩,b4⟩:=SP (ops:=ops) _ ops.toList 0 [] (by simp) t h k
    rw[Nat.zero_add,Array.length_toList]at b3 b3' b4
    have hsz:∀ {i:Nat} {o},ops[i]? =some o->i<ops.size:=fun e=>(Array.getElem?_eq_some_iff.1 e).1
    have hRj:∀ j,j<=p->j<=ops.size->R (Hs j):=fun j hj hs=>by
     cases j with
     |zero=>rw[b2];exact hR
     |succ j=>
      have ho:ops[j]? =some (ops[j]'(by omega)):=Array.getElem?_eq_getElem _
      exact(b4 j _ (Nat.zero_le _) (by omega) ho).2.2.1 hj
    obtain⟨f1,f2,f3⟩:=KY (nt:=nt) (ops:=ops) (Ts:=Ts) (Hs:=Hs) hm hd ec
     (fun i o ho=>⟨(b4 i o (Nat.zero_le _) (hsz ho) ho).1,(b4 i o (Nat.zero_le _) (hsz ho) ho).2.1⟩)
     (fun c hc o ho j hj=>by
       have:=List.all_eq_true.1 hcs c hc
       rw[Bool.and_eq_true,decide_eq_true_eq,List.all_eq_true]at this
       obtain⟨g1,g2⟩:=this
       have g3:=of_decide_eq_true (g2 j hj)
       exact(b4 _ o (Nat.zero_le _) (hsz ho) ho).2.2.2 g1 _ (hRj j g3 (by omega)))
    rw[b2,b3']at f1 f2
    exact⟨f1,f2,fun ρ a w w0 Q A R hQ=>f3 ρ a w w0 id Q (by rw[b1];exact A) (by rw[b2];exact R) (by rw[b2,b3,b3'];exact hQ)⟩
 |scope d=>exact absurd rfl (hs d)
 |_=>cases e'
end
section
variable {P:Program} {q:List Nat} {p n m:Nat} {R:H->Prop} {l:List CO} {t:F} {h:H} {K:F->H->Prop} {r:CW} {b:Bool}
theorem Lg (k:K t h):Np P q p R [] n t h K:=k
/--one that doesn't float -/
theorem Ao (hq:n∉q) (a:OR P r t h (.w 0 [] F.zero fun t' h'=>(n+1<=p->R h')/\Np P q p R l (n+1) (put m (get 0 t') t) h' K)):Np P q p R (.mk .none (.some (AV m)) b (.mk r)::l) n t h K:=by
 obtain⟨v,h',rr,k⟩:=a
 rw[P2,JX,AB,if_pos rfl]at k
 exact⟨_,h',MT rr,k.1,fun e=>absurd e hq,k.2⟩
theorem Xr (hq:n∉q) (a:OR P r t h (.w0 [] t fun _ h'=>(n+1<=p->R h')/\Np P q p R l (n+1) t h' K)):Np P q p R (.mk .none .none b (.mk r)::l) n t h K:=by
 obtain⟨v,h',rr,k⟩:=ay a
 exact⟨_,h',We rr,k.1,fun e=>absurd e hq,k.2⟩
/--the one that floats -/
theorem D1 (x:V) (hR:R h) (a:∀ g,R g->OR P r t g (.w 0 [] F.zero fun t' h'=>get 0 t'=x/\h'=g)) (k:Np P q p R l (n+1) (put m x t) h K):Np P q p R (.mk .none (.some (AV m)) b (.mk r)::l) n t h K:=
 ⟨_,h,MT (Qe (a h hR)),fun _=>hR,fun _ g hg=>MT (Qe (a g hg)),k⟩
/--one that is guarded -/
theorem Ba {gs:Nat} {w:Bool} (hq:n∉q) (a:GD P (get gs t) w r t h (.w 0 [] F.zero fun t' h'=>(n+1<=p->R h')/\Np P q p R l (n+1) (put m (get 0 t') t) h' K)):Np P q p R (.mk (.some (AV gs) w) (.some (AV m)) b (.mk r)::l) n t h K:=by
 obtain⟨c,e,⟨rfl,v,h',rr,k⟩|⟨rfl,k⟩⟩:=a
 ·rw[P2,JX,AB,if_pos rfl]at k
  exact⟨_,h',⟨true,fun k=>e k,.inl ⟨rfl,v,rr,fun k=>FH k⟩⟩,k.1,fun e=>absurd e hq,k.2⟩
 ·rw[P2,JX,AB,if_pos rfl]at k
  exact⟨_,h,⟨false,fun k=>e k,.inr ⟨rfl,rfl,fun k=>FH k⟩⟩,k.1,fun e=>absurd e hq,k.2⟩
/--one that is guarded,and floats -/
theorem DV {gs:Nat} {w:Bool} (x:V) (hg:get gs t=.b w) (hR:R h) (a:∀ g,R g->OR P r t g (.w 0 [] F.zero fun t' h'=>get 0 t'=x/\h'=g)) (k:Np P q p R l (n+1) (put m x t) h K):Np P q p R (.mk (.some (AV gs) w) (.some (AV m)) b (.mk r)::l) n t h K:=by
 have e:∀ k,CZ (.some (AV gs) w) t k=k true:=fun k=>by
  show vG (get gs t) w k=k true
  rw[hg];cases w<;>rfl
 exact⟨_,h,⟨true,e,.inl ⟨rfl,_,Qe (a h hR),fun k=>FH k⟩⟩,fun _=>hR,fun _ g hg=>⟨true,e,.inl ⟨rfl,_,Qe (a g hg),fun k=>FH k⟩⟩,k⟩
end
end Go.Ev
set_option maxRecDepth 100000
set_option maxHeartbeats 8000000
namespace Go.Ev
open Go
def yI (P:Program) (nt:Nat) (l:List CO) (ld:List Nat) (cs:List (Nat×List Nat)) (t:F) (h:H) (K:X->F->H->Prop):Prop:=Ok P nt (.Bg l (some (ld,cs))) t h K
theorem HW {P:Program} {nt:Nat} {l:List CO} {ld:List Nat} {cs:List (Nat×List Nat)} {t:F} {h:H} {K:X->F->H->Prop} (a:yI P nt l ld cs t h K):Ok P nt (.Bg l (some (ld,cs))) t h K:=a
end Go.Ev
namespace Go.Proofs.Ytmlcddeikgechaa
open Go Go.Ev
theorem Ji {h:H} {v:V} {lv n tn:Int} {sh:Bool} {ws:List Bs} (hL:Ws h v ws) (hl:ws.length<=10000) (hf:B.val h.floor<=B.val h.next):BZ Try.prog 10 [.a [.i .i64 lv,.i .i64 n,.i .i64 tn,.b sh,v]] h fun y h'=>
 y=.tu [sv (Ec ⟨lv,n,tn,sh,ws⟩).1,.b (Ec ⟨lv,n,tn,sh,ws⟩).2]/\AZ AM h h':=by
 refine BP xj (by intro hb;cases hb) (by simp) (by simp) fun Q hQ=>?_
 simp only[Ay,Nat.reduceAdd]
 repeat' (first
  |refine St.h ?_
  |simp(disch:=first|omega|(simp only[AJ];omega))only[AK,↓AB,↓reduceIte,seval]
  |(with_reducible (first|apply AD|apply AE))<;>(intro hc;(try simp only[AR]at hc);(try simp only[hc]);(try simp only[AQ]at hc);try omega))
 refine AL.own (by simp) hf fun h1 s1 n1 o1=>?_
 have hf1:=s1.fl hf
 have hL1:=hL.grow s1
 have r1:=o1.row
 repeat' (first
  |refine St.h ?_
  |simp(disch:=first|omega|(simp only[AJ];omega))only[AK,↓AB,↓reduceIte,seval,r1.l1,r1.ln]
  |(with_reducible (first|apply AD|apply AE))<;>(intro hc;(try simp only[AR]at hc);(try simp only[hc]);(try simp only[AQ]at hc);try omega))
 refine CL.stay (Kn hL1 hl hf1) fun h2 s2=>?_
 have o2:=o1.stay s2 fun e=>e
 have r2:=o2.row
 have hL2:=hL1.grow s2
 have hf2:=s2.fl hf1
 have s02:=s1.trans s2
 cases hi:F7 ⟨lv,n,tn,sh,ws⟩with
 |false=>
  repeat' (first
   |refine St.h ?_
   |simp(disch:=first|omega|(simp only[AJ];omega))only[AK,↓AB,↓reduceIte,seval]
   |(with_reducible (first|apply AD|apply AE))<;>(intro hc;(try simp only[AR]at hc);(try simp only[hc]);(try simp only[AQ]at hc);try omega))
  subst hQ
  unfold Ec
  rw[hi]
  exact⟨rfl,s02⟩
 |true=>
 obtain⟨g1,g2,g3,g4,g5,g6⟩:0<=lv/\lv<6/\1<=n/\n<=1000000/\0<=tn/\tn<=1000000:=HD hi
 have hB:Ho ws=true:=Hh hi
 have q1:=BO (n:=lv.toNat) (by omega)
 have q2:=BO (n:=n.toNat) (by omega)
 have q3:=BO (n:=tn.toNat) (by omega)
 have q4:=D4 hB
 have hbl:=HR hi
 cases sh with
 |false=>
  repeat' (first
   |with_reducible refine HW ?_
   |refine St.h ?_
   |simp(disch:=first|omega|(simp only[AJ];omega))only[AK,↓AB,↓reduceIte,seval,r2.l1]
   |(with_reducible (first|apply AD|apply AE))<;>(intro hc;(try simp only[AR]at hc);(try simp only[hc]);(try simp only[AQ]at hc);try omega))
  refine Ok.JU Pa [1,4,8,14] 10 (fun g=>Row g h.next 0 0 [.i .i64 lv,.i .i64 n,.i .i64 tn,.b false,v]) (by decide) (by decide) r2 ?_
  refine Ao (by decide) ?_
  repeat' (first
   |refine St.h ?_
   |simp(disch:=first|omega|(simp only[AJ];omega))only[AK,↓AB,↓reduceIte,seval]
   |(with_reducible (first|apply AD|apply AE))<;>(intro hc;(try simp only[AR]at hc);(try simp only[hc]);(try simp only[AQ]at hc);try omega))
  refine⟨fun _=>r2,?_⟩
  refine D1 (.i .i64 lv) r2 (fun g hg=>by simp(disch:=first|omega|(simp only[AJ];omega))only[AK,↓AB,↓reduceIte,seval,hg.l1]) ?_
  refine Ao (by decide) ?_
  repeat' (first
   |refine St.h ?_
   |simp(disch:=first|omega|(simp only[AJ];omega))only[AK,↓AB,↓reduceIte,seval]
   |(with_reducible (first|apply AD|apply AE))<;>(intro hc;(try simp only[AR]at hc);(try simp only[hc]);(try simp only[AQ]at hc);try omega))
  refine CL.stay (Et (by omega) hf2) fun h3 s3=>?_
  have r3:=(o2.stay s3 fun e=>e).row
  have hf3:=s3.fl hf2
  have s23:=s3
  repeat' (first
   |refine St.h ?_
   |simp(disch:=first|omega|(simp only[AJ];omega))only[AK,↓AB,↓reduceIte,seval]
   |(with_reducible (first|apply AD|apply AE))<;>(intro hc;(try simp only[AR]at hc);(try simp only[hc]);(try simp only[AQ]at hc);try omega))
  refine⟨fun _=>r3,?_⟩
  refine Ao (by decide) ?_
  repeat' (first
   |refine St.h ?_
   |simp(disch:=first|omega|(simp only[AJ];omega))only[AK,↓AB,↓reduceIte,seval]
   |(with_reducible (first|apply AD|apply AE))<;>(intro hc;(try simp only[AR]at hc);(try simp only[hc]);(try simp only[AQ]at hc);try omega))
  refine⟨fun _=>r3,?_⟩
  refine D1 (.i .i64 n) r3 (fun g hg=>by simp(disch:=first|omega|(simp only[AJ];omega))only[AK,↓AB,↓reduceIte,seval,hg.l1]) ?_
  refine Ao (by decide) ?_
  repeat' (first
   |refine St.h ?_
   |simp(disch:=first|omega|(simp only[AJ];omega))only[AK,↓AB,↓reduceIte,seval]
   |(with_reducible (first|apply AD|apply AE))<;>(intro hc;(try simp only[AR]at hc);(try simp only[hc]);(try simp only[AQ]at hc);try omega))
  refine CL.stay (Et (by omega) hf3) fun h4 s4=>?_
  have s24:=s3.trans s4
  have r4:=(o2.stay s24 fun e=>e).row
  have hf4:=s4.fl hf3
  repeat' (first
   |refine St.h ?_
   |simp(disch:=first|omega|(simp only[AJ];omega))only[AK,↓AB,↓reduceIte,seval]
   |(with_reducible (first|apply AD|apply AE))<;>(intro hc;(try simp only[AR]at hc);(try simp only[hc]);(try simp only[AQ]at hc);try omega))
  refine⟨fun _=>r4,?_⟩
  refine Ao (by decide) ?_
  repeat' (first
   |refine St.h ?_
   |simp(disch:=first|omega|(simp only[AJ];omega))only[AK,↓AB,↓reduceIte,seval]
   |(with_reducible (first|apply AD|apply AE))<;>(intro hc;(try simp only[AR]at hc);(try simp only[hc]);(try simp only[AQ]at hc);try omega))
  refine⟨fun _=>r4,?_⟩
  refine Ao (by decide) ?_
  repeat' (first
   |refine St.h ?_
   |simp(disch:=first|omega|(simp only[AJ];omega))only[AK,↓AB,↓reduceIte,seval]
   |(with_reducible (first|apply AD|apply AE))<;>(intro hc;(try simp only[AR]at hc);(try simp only[hc]);(try simp only[AQ]at hc);try omega))
  refine⟨fun _=>r4,?_⟩
  refine D1 (.i .i64 tn) r4 (fun g hg=>by simp(disch:=first|omega|(simp only[AJ];omega))only[AK,↓AB,↓reduceIte,seval,hg.l1]) ?_
  refine Ao (by decide) ?_
  repeat' (first
   |refine St.h ?_
   |simp(disch:=first|omega|(simp only[AJ];omega))only[AK,↓AB,↓reduceIte,seval]
   |(with_reducible (first|apply AD|apply AE))<;>(intro hc;(try simp only[AR]at hc);(try simp only[hc]);(try simp only[AQ]at hc);try omega))
  refine CL.stay (Et (by omega) hf4) fun h5 s5=>?_
  have s25:=s24.trans s5
  have r5:=(o2.stay s25 fun e=>e).row
  have hf5:=s5.fl hf4
  have hL5:=hL2.grow s25
  repeat' (first
   |refine St.h ?_
   |simp(disch:=first|omega|(simp only[AJ];omega))only[AK,↓AB,↓reduceIte,seval]
   |(with_reducible (first|apply AD|apply AE))<;>(intro hc;(try simp only[AR]at hc);(try simp only[hc]);(try simp only[AQ]at hc);try omega))
  refine⟨fun _=>r5,?_⟩
  refine Ao (by decide) ?_
  repeat' (first
   |refine St.h ?_
   |simp(disch:=first|omega|(simp only[AJ];omega))only[AK,↓AB,↓reduceIte,seval]
   |(with_reducible (first|apply AD|apply AE))<;>(intro hc;(try simp only[AR]at hc);(try simp only[hc]);(try simp only[AQ]at hc);try omega))
  refine⟨fun h=>absurd h (by decide),?_⟩
  refine Ao (by decide) ?_
  repeat' (first
   |refine St.h ?_
   |simp(disch:=first|omega|(simp only[AJ];omega))only[AK,↓AB,↓reduceIte,seval]
   |(with_reducible (first|apply AD|apply AE))<;>(intro hc;(try simp only[AR]at hc);(try simp only[hc]);(try simp only[AQ]at hc);try omega))
  refine⟨fun h=>absurd h (by decide),?_⟩
  refine Ao (by decide) ?_
  repeat' (first
   |refine St.h ?_
   |simp(disch:=first|omega|(simp only[AJ];omega))only[AK,↓AB,↓reduceIte,seval]
   |(with_reducible (first|apply AD|apply AE))<;>(intro hc;(try simp only[AR]at hc);(try simp only[hc]);(try simp only[AQ]at hc);try omega))
  refine⟨fun h=>absurd h (by decide),?_⟩
  refine Ao (by decide) ?_
  repeat' (first
   |refine St.h ?_
   |simp(disch:=first|omega|(simp only[AJ];omega))only[AK,↓AB,↓reduceIte,seval]
   |(with_reducible (first|apply AD|apply AE))<;>(intro hc;(try simp only[AR]at hc);(try simp only[hc]);(try simp only[AQ]at hc);try omega))
  refine⟨fun h=>absurd h (by decide),?_⟩
  refine D1 v r5 (fun g hg=>by simp(disch:=first|omega|(simp only[AJ];omega))only[AK,↓AB,↓reduceIte,seval,hg.l1]) ?_
  refine Ao (by decide) ?_
  repeat' (first
   |refine St.h ?_
   |simp(disch:=first|omega|(simp only[AJ];omega))only[AK,↓AB,↓reduceIte,seval]
   |(with_reducible (first|apply AD|apply AE))<;>(intro hc;(try simp only[AR]at hc);(try simp only[hc]);(try simp only[AQ]at hc);try omega))
  refine CL.stay (Qn hL5 hB hf5) fun h6 s6=>?_
  have s26:=s25.trans s6
  have hf6:=s6.fl hf5
  repeat' (first
   |refine St.h ?_
   |simp(disch:=first|omega|(simp only[AJ];omega))only[AK,↓AB,↓reduceIte,seval]
   |(with_reducible (first|apply AD|apply AE))<;>(intro hc;(try simp only[AR]at hc);(try simp only[hc]);(try simp only[AQ]at hc);try omega))
  refine⟨fun h=>absurd h (by decide),?_⟩
  refine Ao (by decide) ?_
  repeat' (first
   |refine St.h ?_
   |simp(disch:=first|omega|(simp only[AJ];omega))only[AK,↓AB,↓reduceIte,seval]
   |(with_reducible (first|apply AD|apply AE))<;>(intro hc;(try simp only[AR]at hc);(try simp only[hc]);(try simp only[AQ]at hc);try omega))
  refine⟨fun h=>absurd h (by decide),?_⟩
  refine Ao (by decide) ?_
  repeat' (first
   |refine St.h ?_
   |simp(disch:=first|omega|(simp only[AJ];omega))only[AK,↓AB,↓reduceIte,seval]
   |(with_reducible (first|apply AD|apply AE))<;>(intro hc;(try simp only[AR]at hc);(try simp only[hc]);(try simp only[AQ]at hc);try omega))
  refine CL.stay (NV (by simp only[List.length_append,List.length_cons,List.length_nil];omega) hf6) fun h7 s7=>?_
  repeat' (first
   |refine St.h ?_
   |simp(disch:=first|omega|(simp only[AJ];omega))only[AK,↓AB,↓reduceIte,seval]
   |(with_reducible (first|apply AD|apply AE))<;>(intro hc;(try simp only[AR]at hc);(try simp only[hc]);(try simp only[AQ]at hc);try omega))
  refine⟨fun h=>absurd h (by decide),?_⟩
  refine Ao (by decide) ?_
  repeat' (first
   |refine St.h ?_
   |simp(disch:=first|omega|(simp only[AJ];omega))only[AK,↓AB,↓reduceIte,seval]
   |(with_reducible (first|apply AD|apply AE))<;>(intro hc;(try simp only[AR]at hc);(try simp only[hc]);(try simp only[AQ]at hc);try omega))
  refine⟨fun h=>absurd h (by decide),?_⟩
  refine Ao (by decide) ?_
  repeat' (first
   |refine St.h ?_
   |simp(disch:=first|omega|(simp only[AJ];omega))only[AK,↓AB,↓reduceIte,seval]
   |(with_reducible (first|apply AD|apply AE))<;>(intro hc;(try simp only[AR]at hc);(try simp only[hc]);(try simp only[AQ]at hc);try omega))
  refine⟨fun h=>absurd h (by decide),?_⟩
  refine Lg ?_
  repeat' (first
   |refine St.h ?_
   |simp(disch:=first|omega|(simp only[AJ];omega))only[AK,↓AB,↓reduceIte,seval]
   |(with_reducible (first|apply AD|apply AE))<;>(intro hc;(try simp only[AR]at hc);(try simp only[hc]);(try simp only[AQ]at hc);try omega))
  subst hQ
  refine⟨?_,s02.trans (s26.trans s7)⟩
  unfold Ec
  rw[hi]
  show V.tu [sv (B7 _),V.b true]=V.tu [sv (B7 (DG _)),V.b true]
  unfold DG EV
  simp[List.append_assoc]
 |true=>
  repeat' (first
   |with_reducible refine HW ?_
   |refine St.h ?_
   |simp(disch:=first|omega|(simp only[AJ];omega))only[AK,↓AB,↓reduceIte,seval,r2.l1]
   |(with_reducible (first|apply AD|apply AE))<;>(intro hc;(try simp only[AR]at hc);(try simp only[hc]);(try simp only[AQ]at hc);try omega))
  refine Ok.JU Pa [1,4,8,14] 10 (fun g=>Row g h.next 0 0 [.i .i64 lv,.i .i64 n,.i .i64 tn,.b true,v]) (by decide) (by decide) r2 ?_
  refine Ao (by decide) ?_
  repeat' (first
   |refine St.h ?_
   |simp(disch:=first|omega|(simp only[AJ];omega))only[AK,↓AB,↓reduceIte,seval]
   |(with_reducible (first|apply AD|apply AE))<;>(intro hc;(try simp only[AR]at hc);(try simp only[hc]);(try simp only[AQ]at hc);try omega))
  refine⟨fun _=>r2,?_⟩
  refine D1 (.i .i64 lv) r2 (fun g hg=>by simp(disch:=first|omega|(simp only[AJ];omega))only[AK,↓AB,↓reduceIte,seval,hg.l1]) ?_
  refine Ao (by decide) ?_
  repeat' (first
   |refine St.h ?_
   |simp(disch:=first|omega|(simp only[AJ];omega))only[AK,↓AB,↓reduceIte,seval]
   |(with_reducible (first|apply AD|apply AE))<;>(intro hc;(try simp only[AR]at hc);(try simp only[hc]);(try simp only[AQ]at hc);try omega))
  refine CL.stay (Et (by omega) hf2) fun h3 s3=>?_
  have r3:=(o2.stay s3 fun e=>e).row
  have hf3:=s3.fl hf2
  have s23:=s3
  repeat' (first
   |refine St.h ?_
   |simp(disch:=first|omega|(simp only[AJ];omega))only[AK,↓AB,↓reduceIte,seval]
   |(with_reducible (first|apply AD|apply AE))<;>(intro hc;(try simp only[AR]at hc);(try simp only[hc]);(try simp only[AQ]at hc);try omega))
  refine⟨fun _=>r3,?_⟩
  refine Ao (by decide) ?_
  repeat' (first
   |refine St.h ?_
   |simp(disch:=first|omega|(simp only[AJ];omega))only[AK,↓AB,↓reduceIte,seval]
   |(with_reducible (first|apply AD|apply AE))<;>(intro hc;(try simp only[AR]at hc);(try simp only[hc]);(try simp only[AQ]at hc);try omega))
  refine⟨fun _=>r3,?_⟩
  refine D1 (.i .i64 n) r3 (fun g hg=>by simp(disch:=first|omega|(simp only[AJ];omega))only[AK,↓AB,↓reduceIte,seval,hg.l1]) ?_
  refine Ao (by decide) ?_
  repeat' (first
   |refine St.h ?_
   |simp(disch:=first|omega|(simp only[AJ];omega))only[AK,↓AB,↓reduceIte,seval]
   |(with_reducible (first|apply AD|apply AE))<;>(intro hc;(try simp only[AR]at hc);(try simp only[hc]);(try simp only[AQ]at hc);try omega))
  refine CL.stay (Et (by omega) hf3) fun h4 s4=>?_
  have s24:=s3.trans s4
  have r4:=(o2.stay s24 fun e=>e).row
  have hf4:=s4.fl hf3
  repeat' (first
   |refine St.h ?_
   |simp(disch:=first|omega|(simp only[AJ];omega))only[AK,↓AB,↓reduceIte,seval]
   |(with_reducible (first|apply AD|apply AE))<;>(intro hc;(try simp only[AR]at hc);(try simp only[hc]);(try simp only[AQ]at hc);try omega))
  refine⟨fun _=>r4,?_⟩
  refine Ao (by decide) ?_
  repeat' (first
   |refine St.h ?_
   |simp(disch:=first|omega|(simp only[AJ];omega))only[AK,↓AB,↓reduceIte,seval]
   |(with_reducible (first|apply AD|apply AE))<;>(intro hc;(try simp only[AR]at hc);(try simp only[hc]);(try simp only[AQ]at hc);try omega))
  refine⟨fun _=>r4,?_⟩
  refine Ao (by decide) ?_
  repeat' (first
   |refine St.h ?_
   |simp(disch:=first|omega|(simp only[AJ];omega))only[AK,↓AB,↓reduceIte,seval]
   |(with_reducible (first|apply AD|apply AE))<;>(intro hc;(try simp only[AR]at hc);(try simp only[hc]);(try simp only[AQ]at hc);try omega))
  refine⟨fun _=>r4,?_⟩
  refine D1 (.i .i64 tn) r4 (fun g hg=>by simp(disch:=first|omega|(simp only[AJ];omega))only[AK,↓AB,↓reduceIte,seval,hg.l1]) ?_
  refine Ao (by decide) ?_
  repeat' (first
   |refine St.h ?_
   |simp(disch:=first|omega|(simp only[AJ];omega))only[AK,↓AB,↓reduceIte,seval]
   |(with_reducible (first|apply AD|apply AE))<;>(intro hc;(try simp only[AR]at hc);(try simp only[hc]);(try simp only[AQ]at hc);try omega))
  refine CL.stay (Et (by omega) hf4) fun h5 s5=>?_
  have s25:=s24.trans s5
  have r5:=(o2.stay s25 fun e=>e).row
  have hf5:=s5.fl hf4
  have hL5:=hL2.grow s25
  repeat' (first
   |refine St.h ?_
   |simp(disch:=first|omega|(simp only[AJ];omega))only[AK,↓AB,↓reduceIte,seval]
   |(with_reducible (first|apply AD|apply AE))<;>(intro hc;(try simp only[AR]at hc);(try simp only[hc]);(try simp only[AQ]at hc);try omega))
  refine⟨fun _=>r5,?_⟩
  refine Ao (by decide) ?_
  repeat' (first
   |refine St.h ?_
   |simp(disch:=first|omega|(simp only[AJ];omega))only[AK,↓AB,↓reduceIte,seval]
   |(with_reducible (first|apply AD|apply AE))<;>(intro hc;(try simp only[AR]at hc);(try simp only[hc]);(try simp only[AQ]at hc);try omega))
  refine⟨fun h=>absurd h (by decide),?_⟩
  refine Ao (by decide) ?_
  repeat' (first
   |refine St.h ?_
   |simp(disch:=first|omega|(simp only[AJ];omega))only[AK,↓AB,↓reduceIte,seval]
   |(with_reducible (first|apply AD|apply AE))<;>(intro hc;(try simp only[AR]at hc);(try simp only[hc]);(try simp only[AQ]at hc);try omega))
  refine⟨fun h=>absurd h (by decide),?_⟩
  refine Ao (by decide) ?_
  repeat' (first
   |refine St.h ?_
   |simp(disch:=first|omega|(simp only[AJ];omega))only[AK,↓AB,↓reduceIte,seval]
   |(with_reducible (first|apply AD|apply AE))<;>(intro hc;(try simp only[AR]at hc);(try simp only[hc]);(try simp only[AQ]at hc);try omega))
  refine⟨fun h=>absurd h (by decide),?_⟩
  refine Ao (by decide) ?_
  repeat' (first
   |refine St.h ?_
   |simp(disch:=first|omega|(simp only[AJ];omega))only[AK,↓AB,↓reduceIte,seval]
   |(with_reducible (first|apply AD|apply AE))<;>(intro hc;(try simp only[AR]at hc);(try simp only[hc]);(try simp only[AQ]at hc);try omega))
  refine⟨fun h=>absurd h (by decide),?_⟩
  refine D1 v r5 (fun g hg=>by simp(disch:=first|omega|(simp only[AJ];omega))only[AK,↓AB,↓reduceIte,seval,hg.l1]) ?_
  refine Ao (by decide) ?_
  repeat' (first
   |refine St.h ?_
   |simp(disch:=first|omega|(simp only[AJ];omega))only[AK,↓AB,↓reduceIte,seval]
   |(with_reducible (first|apply AD|apply AE))<;>(intro hc;(try simp only[AR]at hc);(try simp only[hc]);(try simp only[AQ]at hc);try omega))
  refine CL.stay (Qn hL5 hB hf5) fun h6 s6=>?_
  have s26:=s25.trans s6
  have hf6:=s6.fl hf5
  repeat' (first
   |refine St.h ?_
   |simp(disch:=first|omega|(simp only[AJ];omega))only[AK,↓AB,↓reduceIte,seval]
   |(with_reducible (first|apply AD|apply AE))<;>(intro hc;(try simp only[AR]at hc);(try simp only[hc]);(try simp only[AQ]at hc);try omega))
  refine⟨fun h=>absurd h (by decide),?_⟩
  refine Ao (by decide) ?_
  repeat' (first
   |refine St.h ?_
   |simp(disch:=first|omega|(simp only[AJ];omega))only[AK,↓AB,↓reduceIte,seval]
   |(with_reducible (first|apply AD|apply AE))<;>(intro hc;(try simp only[AR]at hc);(try simp only[hc]);(try simp only[AQ]at hc);try omega))
  refine⟨fun h=>absurd h (by decide),?_⟩
  refine Ao (by decide) ?_
  repeat' (first
   |refine St.h ?_
   |simp(disch:=first|omega|(simp only[AJ];omega))only[AK,↓AB,↓reduceIte,seval]
   |(with_reducible (first|apply AD|apply AE))<;>(intro hc;(try simp only[AR]at hc);(try simp only[hc]);(try simp only[AQ]at hc);try omega))
  refine CL.stay (NV (by simp only[List.length_append,List.length_cons,List.length_nil];omega) hf6) fun h7 s7=>?_
  repeat' (first
   |refine St.h ?_
   |simp(disch:=first|omega|(simp only[AJ];omega))only[AK,↓AB,↓reduceIte,seval]
   |(with_reducible (first|apply AD|apply AE))<;>(intro hc;(try simp only[AR]at hc);(try simp only[hc]);(try simp only[AQ]at hc);try omega))
  refine⟨fun h=>absurd h (by decide),?_⟩
  refine Ao (by decide) ?_
  repeat' (first
   |refine St.h ?_
   |simp(disch:=first|omega|(simp only[AJ];omega))only[AK,↓AB,↓reduceIte,seval]
   |(with_reducible (first|apply AD|apply AE))<;>(intro hc;(try simp only[AR]at hc);(try simp only[hc]);(try simp only[AQ]at hc);try omega))
  refine⟨fun h=>absurd h (by decide),?_⟩
  refine Ao (by decide) ?_
  repeat' (first
   |refine St.h ?_
   |simp(disch:=first|omega|(simp only[AJ];omega))only[AK,↓AB,↓reduceIte,seval]
   |(with_reducible (first|apply AD|apply AE))<;>(intro hc;(try simp only[AR]at hc);(try simp only[hc]);(try simp only[AQ]at hc);try omega))
  refine⟨fun h=>absurd h (by decide),?_⟩
  refine Lg ?_
  repeat' (first
   |refine St.h ?_
   |simp(disch:=first|omega|(simp only[AJ];omega))only[AK,↓AB,↓reduceIte,seval]
   |(with_reducible (first|apply AD|apply AE))<;>(intro hc;(try simp only[AR]at hc);(try simp only[hc]);(try simp only[AQ]at hc);try omega))
  subst hQ
  refine⟨?_,s02.trans (s26.trans s7)⟩
  unfold Ec
  rw[hi]
  show V.tu [sv (B7 _),V.b true]=V.tu [sv (B7 (DG _)),V.b true]
  unfold DG EV
  simp[List.append_assoc]
end Go.Proofs.Ytmlcddeikgechaa
set_option maxRecDepth 100000
set_option maxHeartbeats 8000000
namespace Go.Ev
open Go
theorem Own.Mz {h:H} {Q:V->H->Prop} {id:B} {a b c d e:V} {us:List V} (o:Ev.Own h id [a,b,c,d,e]):RA Q 5 (.p id 0 0 5) us h=Q (one (.a [a,b,c,d,e]::us)) h:=o.ra rfl (by omega) (by omega)
def Rx (b:List UInt8) (p:Nat) (x y z:Int):Option Em:=match b.drop p with
 |[]=>none
 |c::b3=>(Br b3).map fun w=>⟨x,y,z,decide (c=1),w⟩
def Uc (b:List UInt8) (p:Nat) (x y:Int):Option Em:=if (takeN (b.drop p)).2.2≠0 then none else Rx b (p+(takeN (b.drop p)).2.1.toNat) x y (takeN (b.drop p)).1
def Ur (b:List UInt8) (p:Nat) (x:Int):Option Em:=if (takeN (b.drop p)).2.2≠0 then none else Uc b (p+(takeN (b.drop p)).2.1.toNat) x (takeN (b.drop p)).1
def Uq (b:List UInt8) (p:Nat):Option Em:=if (takeN (b.drop p)).2.2≠0 then none else Ur b (p+(takeN (b.drop p)).2.1.toNat) (takeN (b.drop p)).1
theorem SG (b:List UInt8):Ek b=Uq b 0:=by
 unfold Ek Uq Ur Uc Rx
 simp only[List.drop_zero,List.drop_drop,Nat.zero_add]
 iterate 3 (try (split<;>try rfl))
 all_goals (cases List.drop _ b<;>rfl)
/--where the loop is -/
def YP (b:List UInt8) (p:Nat) (xs:List V) (i:Nat):Prop:=
 (i=0/\xs=[.i .i64 0,.i .i64 0,.i .i64 0]/\Ek b=Uq b p)\/(∃ x,i=1/\xs=[.i .i64 x,.i .i64 0,.i .i64 0]/\Ek b=Ur b p x)\/
 (∃ x y,i=2/\xs=[.i .i64 x,.i .i64 y,.i .i64 0]/\Ek b=Uc b p x y)\/(∃ x y z,i=3/\xs=[.i .i64 x,.i .i64 y,.i .i64 z]/\Ek b=Rx b p x y z)
theorem YP.no {b:List UInt8} {p i:Nat} {xs:List V} (a:YP b p xs i) (hi:i<3) (h:(takeN (b.drop p)).2.2≠0):Ek b=none:=by
 rcases a with⟨_,_,e⟩|⟨x,_,_,e⟩|⟨x,y,_,_,e⟩|⟨x,y,z,e,_⟩
 ·rw[e];unfold Uq;rw[if_pos h]
 ·rw[e];unfold Ur;rw[if_pos h]
 ·rw[e];unfold Uc;rw[if_pos h]
 ·omega
theorem YP.len {b:List UInt8} {p i:Nat} {xs:List V} (a:YP b p xs i):xs.length=3/\i<=3:=by
 rcases a with⟨rfl,rfl,e⟩|⟨x,rfl,rfl,e⟩|⟨x,y,rfl,rfl,e⟩|⟨x,y,z,rfl,rfl,_⟩<;>exact⟨rfl,by omega⟩
theorem YP.next {b:List UInt8} {p i:Nat} {xs:List V} {q k:Nat} (a:YP b p xs i) (hi:i<3) (h:takeN (b.drop p)=((q:Int),(k:Int),0)):YP b (p+k) (xs.set i (.i .i64 (q:Int))) (i+1):=by
 have hk:((k:Int)).toNat=k:=by omega
 rcases a with⟨rfl,rfl,e⟩|⟨x,rfl,rfl,e⟩|⟨x,y,rfl,rfl,e⟩|⟨x,y,z,rfl,_⟩
 ·refine .inr (.inl ⟨_,rfl,rfl,?_⟩);rw[e];unfold Uq;rw[h,if_neg (by simp)];simp only[hk]
 ·refine .inr (.inr (.inl ⟨_,_,rfl,rfl,?_⟩));rw[e];unfold Ur;rw[h,if_neg (by simp)];simp only[hk]
 ·refine .inr (.inr (.inr ⟨_,_,_,rfl,rfl,?_⟩));rw[e];unfold Uc;rw[h,if_neg (by simp)];simp only[hk]
 ·omega
end Go.Ev
end
