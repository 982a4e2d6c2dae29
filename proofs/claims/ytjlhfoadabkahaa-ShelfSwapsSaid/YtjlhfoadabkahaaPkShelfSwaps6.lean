/- Texts of ours, without what this claim does not use: Wv NShOn JrLw NShKn JrLw2 NShDr NShSw ShelfSwaps. No condition. -/
import Derived.Test.YtjlhfoadabkahaaPkShelfSwaps5
import Derived.Test.YtjlhfoadabkahaaProg
import Derived.KernelRfl
import Derived.Test.YtjlhfoadabkahaaRows
import Derived.WalkKit
import Derived.ProofKit
import Derived.OpenShut
import Derived.ChangeMaps5
set_option linter.all false
namespace Go.Ev
open Go
section
variable {P : Program} {nt : Nat} {t : F} {h : H} {K : X → F → H → Prop}
theorem CodeN.call {id f d : Nat} {ops : Array Oper} {pre rest : List Oper} {oC : Oper} {args : Array Operand} {tys : Array TypeId} (p1 : ops.toList = pre ++ oC :: rest) (p2 : oC.op = .call ⟨.value (.func f), args, tys⟩) (p3 : oC.dst = some d) (p4 : oC.guard = none) (hd : fits nt d = true)
    (a : WO P (compOpsWith (fun _ => true) P nt ops.toList (compOp P) 0 pre) t h fun t1 h1 => FnN P f ((args.toList.map compO).map fun o => oV o t1) h1 fun y h2 => WO P (compOpsWith (fun _ => true) P nt ops.toList (compOp P) (pre.length + 1) rest) (put d y t1) h2 fun t3 h3 => K .normal t3 h3) : CodeN P nt (.region id ops false) t h K := by
  intro ρ a0 w w0 Q D A R hQ
  obtain ⟨d1, d2⟩ := fits_ok hd
  refine wp_region ?_
  have hsz : List.range ops.size = List.range' 0 (pre.length + (oC :: rest).length) := by
    have h1 : ops.size = pre.length + (oC :: rest).length := by have := congrArg List.length p1; simpa using this
    rw [List.range_eq_range', h1]
  rw [hsz]
  obtain ⟨t1, h1, hpre, hF⟩ := a
  obtain ⟨k1, k2, k3⟩ := opsRel_pre (fun _ => true) (oC :: rest) pre 0 (by rw [p1]; rfl) _ _ _ _ hpre
  refine k3 ρ a0 w w0 _ A R fun ρ1 a1 w1 l1 A1 R1 => ?_
  rw [Nat.zero_add]
  have hargs : LRel ρ1 ((args.toList.map compO).map fun o => oV o t1) (args.toList.map a1.eval) := by
    rw [List.map_map]; exact ORel.list (os := args.toList) fun x _ => opnd_rel A1 x
  obtain ⟨c1, c2⟩ := hF ρ1 w1 w0 _ hargs (D.up k1.1 l1) R1
  have hn : ops[pre.length]? = some oC := by
    have : ops.toList[pre.length]? = some oC := by rw [p1]; simp
    simpa using this
  have hl' : ops.toList.drop (pre.length + 1) = rest := by rw [p1]; simp
  rw [List.length_cons, List.range'_succ, wpOps_cons]
  unfold wpOp
  simp only [hn, wanted_none p4, if_true]
  refine .inl ?_
  have hx : (execOp a1.eval oC).run P w1 = .ok (.enter f (args.toList.map a1.eval).toArray) w1 := by
    unfold execOp
    rw [p2]
    simp only [Sem.run_bind, run_resolve_value P w1 a1.eval f args tys oC.type rfl, Result.andThen_ok, invoke]
    rw [← c1]
    rw [show ((#[] ++ args.map a1.eval) ++ #[] : Array Value) = (args.toList.map a1.eval).toArray by apply Array.ext'; simp]
  unfold Oper.wp
  rw [hx]
  refine Calls.mono c2 fun e w' he => ?_
  obtain ⟨x, y, h2, rfl, ⟨t3, h3, o1, o2⟩, m1, m2, ρ2, q1, q2, q3⟩ := he
  have A2 := arel_put (A1.up q1.1) q2 d1 d2
  obtain ⟨j1, j2, j3⟩ := opsRel_ok (fun _ => true) rest (pre.length + 1) hl' _ _ _ _ o1
  rw [← p3] at A2
  refine j3 ρ2 _ _ w0 _ A2 q3 fun ρ3 a3 w3 l3 A3 R3 => ?_
  have f1 : h1.floor = h.floor := k1.1
  have f2 : h2.floor = h1.floor := m1.1
  exact hQ .normal t3 h3 ρ3 a3 w3 o2 (KeepF.trans (KeepF.trans k1 k2 m1) (Nat.le_trans k2 m2) j1) (Nat.le_trans (Nat.le_trans k2 m2) j2) ((l1.trans (by rw [← f1]; exact q1)).trans (by rw [← f1, ← f2]; exact l3)) A3 R3
theorem FnN.mono {f : FuncId} {vs : List V} {K K' : V → H → Prop} (a : FnN P f vs h K) (k : ∀ y g, K y g → K' y g) : FnN P f vs h K' := fun ρ w w0 args hl D R => by
  obtain ⟨b1, b2⟩ := a ρ w w0 args hl D R
  exact ⟨b1, b2.mono fun e w' ⟨x, v, g', e1, k1, k2⟩ => ⟨x, v, g', e1, k _ _ k1, k2⟩⟩
theorem OkS.ca {c : CaP} (a : WO P c.pre t h fun t1 h1 => FnN P c.f (c.args.map fun o => oV o t1) h1 fun y h2 => WO P c.rest (put c.d y t1) h2 fun t3 h3 => K .normal t3 h3) : OkS P nt (.call c) t h K :=
  OkS.call fun ops pre oC rest args tys e1 e2 e3 e4 e5 e6 e7 e8 id => CodeN.call e1 e2 e3 e4 e5 (by rw [← e6, ← e7, ← e8]; exact a)
theorem OkS.cn {c : CaP} (a : WO P c.pre t h fun t1 h1 => ∃ vs K0, FnN P c.f vs h1 K0 ∧ (c.args.map fun o => oV o t1) = vs ∧ ∀ y h2, K0 y h2 → WO P c.rest (put c.d y t1) h2 fun t3 h3 => K .normal t3 h3) : OkS P nt (.call c) t h K := by
  obtain ⟨t1, h1, o1, vs, K0, o2, o3, o4⟩ := a
  subst o3
  exact OkS.ca ⟨t1, h1, o1, FnN.mono o2 o4⟩
theorem OkS.cd {o : O} {s1 s2 : Sh} (a : CD (oV o t) (OkS P nt s1 t h K) (OkS P nt s2 t h K)) : OkS P nt (.cond o s1 s2) t h K := by
  obtain ⟨q, hq, a1, a2⟩ := a
  exact OkS.cond hq a1 a2
instance {x : CC} : St (OkS P nt (.cc x) t h K) (Ok P nt x t h K) := ⟨OkS.cc⟩
instance {a b : Sh} : St (OkS P nt (.seq a b) t h K) (OkS P nt a t h (SqS P nt b K)) := ⟨OkS.seq⟩
instance {id : Nat} {a : Sh} : St (OkS P nt (.block id a) t h K) (OkS P nt a t h (Out id K)) := ⟨OkS.block⟩
instance {o : O} {s1 s2 : Sh} : St (OkS P nt (.cond o s1 s2) t h K) (CD (oV o t) (OkS P nt s1 t h K) (OkS P nt s2 t h K)) := ⟨OkS.cd⟩
theorem sqs_m {s : Sh} : SqS P nt s K .normal t h = OkS P nt s t h K := rfl
theorem sqs_r {s : Sh} : SqS P nt s K .ret t h = K .ret t h := rfl
theorem sqs_e {s : Sh} {j : Nat} : SqS P nt s K (.exit j) t h = K (.exit j) t h := rfl
theorem HRel.low {ρ ρ' : Emb} {h' : H} {w w' w0 : World} (R : HRel ρ h w w0) (hf : h'.floor = h.next) (hn : B.val h.next ≤ B.val h'.next) (x : Ext h.next ρ ρ') (R' : HRel ρ' h' w' w) : HRel ρ' (unFloor h h') w' w0 := by
  rw [unFloor_mk]
  refine ⟨R'.loc, R'.ids, R'.sep, Nat.le_trans R.flo hn, fun b hb => (R'.old b (Nat.lt_of_lt_of_le hb R.siz)).trans (R.old b hb), fun id g L hL hfl => ?_, R'.tp.trans R.tp, R'.os.trans R.os, R'.out.trans R.out, Nat.le_trans R.siz R'.siz, R'.mp, R'.ito⟩
  rcases x.2 _ _ _ hL with h1 | h1
  · exact R.up _ _ _ h1 hfl
  · exact Nat.le_trans R.siz (R'.up _ _ _ hL (by rw [hf]; exact h1))
/-- a function that is told with a floor above all that is there -/
theorem FnN.low {f : FuncId} {vs : List V} {K : V → H → Prop} (hf : B.val h.floor ≤ B.val h.next) (a : FnN P f vs (reFloor h) K) : FnN P f vs h fun y g => ∃ g', K y g' ∧ g'.floor = h.next ∧ B.val h.next ≤ B.val g'.next ∧ Stay nowhere h (unFloor h g') ∧ g = unFloor h g' := by
  intro ρ w w0 args hl D R
  obtain ⟨b1, b2⟩ := a ρ w w args hl (Dn.re R) R.refloor
  refine ⟨b1, b2.mono fun e w' ⟨x, v, g', e1, k, kf, kn, ρ', q1, q2, q3⟩ => ?_⟩
  rw [reFloor_next] at kn
  have k1 : g'.floor = h.next := by rw [kf.1, reFloor_floor]
  have k2 : ∀ id, B.val id < B.val h.next → g'.heap.get id = h.heap.get id := fun id hid => by
    have := kf.2 (by rw [reFloor_floor, reFloor_next]; exact Nat.le_refl _) id (by rw [reFloor_floor]; exact hid)
    rwa [reFloor_heap] at this
  have q1' : Ext h.next ρ ρ' := by rw [reFloor_floor] at q1; exact q1
  refine ⟨x, v, unFloor h g', e1, ⟨g', k, k1, kn, ?_, rfl⟩, ?_, ?_, ρ', ⟨q1'.1, fun id g L hL => (q1'.2 id g L hL).imp_right fun h1 => Nat.le_trans hf h1⟩, q2, R.low k1 kn q1' q3⟩
  · rw [unFloor_mk]; exact ⟨rfl, kn, fun id hid _ => k2 id hid⟩
  · rw [unFloor_mk]; exact ⟨rfl, fun hf id hid => k2 id (Nat.lt_of_lt_of_le hid hf)⟩
  · rw [unFloor_mk]; exact kn
end
end Go.Ev

set_option maxRecDepth 100000
set_option maxHeartbeats 8000000
set_option linter.all false
namespace Go.Proofs.Ytjlhfoadabkahaa
open Go Go.Ev
def NmL (L : List Fi) : Prop := ∀ x ∈ L, x.1.length ≤ 1048576
/-- no name is too long -/
def NmD (D : DS) : Prop := NmL D.K ∧ ∀ a ∈ D.A, a.name.length ≤ 1048576 ∧ a.b.length ≤ 1048576
theorem nm_with {L : List Fi} {f : Fi} (h : NmL L) (hf : f.1.length ≤ 1048576) : NmL (withR L f) := fun x hx => by
  rcases List.mem_cons.1 ((ins_perm (L := wioR L f.1) (f := f)).mem_iff.1 hx) with h1 | h1
  · rw [h1]; exact hf
  · exact h x (List.mem_filter.1 h1).1
theorem nm_done {L : List Fi} {a : DA} (h : NmL L) (h1 : a.name.length ≤ 1048576) (h2 : a.b.length ≤ 1048576) : NmL (doneR L a) := by
  unfold doneR
  repeat' split
  all_goals first | exact nm_with h h1 | exact h | exact nm_with (fun x hx => h x (List.mem_filter.1 hx).1) h2 | exact fun x hx => h x (List.mem_filter.1 hx).1
theorem nm_run {K : List Fi} {A : List DA} (h : NmL K) (hA : ∀ a ∈ A, a.name.length ≤ 1048576 ∧ a.b.length ≤ 1048576) : NmL (runR K A) := by
  unfold runR
  induction A generalizing K with
  | nil => exact h
  | cons a r ih => exact ih (nm_done h (hA a (List.mem_cons_self ..)).1 (hA a (List.mem_cons_self ..)).2) fun b hb => hA b (List.mem_cons_of_mem _ hb)
theorem mem_D {A : List DA} {i : Nat} (h : i < A.length) : A.getD i default ∈ A := by simp [List.getD, h]
theorem nm_crash {D : DS} {n m : Int} (h : NmD D) : NmL (crashR D.K D.A n m) := by
  obtain ⟨h1, h2⟩ := h
  have ht : ∀ i, NmL (runR D.K (D.A.take i)) := fun i => nm_run h1 fun a ha => h2 a (List.mem_of_mem_take ha)
  by_cases e : hlN n D.A.length < D.A.length
  · rw [crash_lt e]
    unfold tornR
    have h3 := h2 _ (mem_D e)
    split
    · exact nm_done (ht _) h3.1 (by rw [List.length_take]; omega)
    · exact ht _
  · rw [crash_ge e]; exact nm_run h1 h2
theorem NmD.L {D : DS} {C : List Fi} {T : List AC} {rm : Int} (h : NmD D) (R : Rel C T rm D) : NmL D.L := by rw [R.run]; exact nm_run h.1 h.2
theorem NmD.act {D : DS} {a : DA} (h : NmD D) (h1 : a.name.length ≤ 1048576) (h2 : a.b.length ≤ 1048576) : NmD (doD D a) := ⟨h.1, fun b hb => by
  rcases List.mem_append.1 hb with h3 | h3
  · exact h.2 b h3
  · rw [List.mem_singleton.1 h3]; exact ⟨h1, h2⟩⟩
theorem NmD.gt {D : DS} {C : List Fi} {T : List AC} {rm : Int} (h : NmD D) (R : Rel C T rm D) {k g : List UInt8} (e : Go.Ev.gt D.L k = some g) : k.length ≤ 1048576 := h.L R (k, g) ((gt_perm e).mem_iff.2 (List.mem_cons_self ..))
/-- a shelf that is as the document's is, and the blocks that it lies in -/
def One (h : H) (s : B) (D : DS) (P : B → Prop) : Prop :=
  ∃ mp lo X U rm, ShM h s mp lo X U U rm ∧ Rel (bX X) (U.map absA) rm D ∧ Srt D.L ∧ Srt D.K ∧ NmD D ∧ (∀ u ∈ U.map absA, ∀ g, u.gone = some g → g.length ≤ 1000000) ∧ ∀ q, fpS s mp lo X U q ↔ P q
/-- what a call leaves, and what it takes anew -/
def Grow (h h' : H) (P P' : B → Prop) : Prop := Stay P h h' ∧ ∀ q, P' q → P q ∨ B.val h.next ≤ B.val q
section
variable {h h' : H} {s : B} {mp lo : V} {X X' : Xs} {U U' : List AB} {rm rm' n m : Int} {D D' : DS} {P : B → Prop} {C' : List Fi} {T' : List AC} {k j b : List UInt8}
theorem Grow.refl (h : H) (P : B → Prop) : Grow h h P P := ⟨Stay.refl _ _, fun q hq => .inl hq⟩
theorem Grow.keep {Q P' : B → Prop} (g : Grow h h' P P') (hs : ∀ q, P q → ¬ Q q) (hQ : ∀ q, Q q → B.val q < B.val h.next) : ∀ q, P' q → ¬ Q q := fun q hq e => by
  rcases g.2 q hq with h1 | h1
  · exact hs q h1 e
  · have := hQ q e; omega
theorem One.stay {p : B → Prop} (o : One h s D P) (t : Stay p h h') (hp : ∀ q, P q → ¬ p q) : One h' s D P := by
  obtain ⟨mp, lo, X, U, rm, S, R, s1, s2, nm, gl, fp⟩ := o
  exact ⟨mp, lo, X, U, rm, S.stay t fun q hq => hp q ((fp q).1 hq), R, s1, s2, nm, gl, fp⟩
theorem One.grow (o : One h s D P) (t : Stay nowhere h h') : One h' s D P := o.stay t fun _ _ e => e
theorem One.lt (o : One h s D P) {q : B} (hq : P q) : B.val q < B.val h.next := by
  obtain ⟨mp, lo, X, U, rm, S, R, s1, s2, nm, gl, fp⟩ := o
  exact S.lt ((fp q).2 hq)
theorem One.self (o : One h s D P) : P s := by
  obtain ⟨mp, lo, X, U, rm, S, R, s1, s2, nm, gl, fp⟩ := o
  exact (fp s).1 (.inl rfl)
theorem One.srt (o : One h s D P) : Srt D.L := by obtain ⟨mp, lo, X, U, rm, S, R, s1, _⟩ := o; exact s1
/-- what the document's crash rests on -/
theorem One.pre (o : One h s D P) : (∀ i, (runR D.K (D.A.take i)).length ≤ 1000) ∧ (∀ i, i < D.A.length → mayR (runR D.K (D.A.take i)) (D.A.getD i default)) ∧ ∀ i, (D.A.getD i default).b.length ≤ 1048576 := by
  obtain ⟨mp, lo, X, U, rm, S, R, _⟩ := o
  exact R.pre
theorem one_of (S : ShM h s mp lo X U U rm) (fp : ∀ q, fpS s mp lo X U q ↔ P q) (a : AftS h h' s mp lo X U C' T' rm') (R' : Rel C' T' rm' D') (h1 : Srt D'.L) (h2 : Srt D'.K) (hn : NmD D') (gl : ∀ u ∈ T', ∀ g, u.gone = some g → g.length ≤ 1000000) : ∃ P', One h' s D' P' ∧ Grow h h' P P' := by
  obtain ⟨mp', lo', X', U', rfl, rfl, S', st, fp'⟩ := a
  refine ⟨_, ⟨mp', lo', X', U', rm', S', R', h1, h2, hn, gl, fun q => Iff.rfl⟩, st.mono fun q _ e => (fp q).1 e, fun q hq => (fp' q hq).imp_left fun e => (fp q).1 e⟩
theorem gl_app {T : List AC} {u : AC} (h : ∀ u ∈ T, ∀ g, u.gone = some g → g.length ≤ 1000000) (hu : ∀ g, u.gone = some g → g.length ≤ 1000000) : ∀ v ∈ T ++ [u], ∀ g, v.gone = some g → g.length ≤ 1000000 := fun v hv => by
  rcases List.mem_append.1 hv with h1 | h1
  · exact h v h1
  · rw [List.mem_singleton.1 h1]; exact hu
theorem gt_okd {L : List Fi} (o : Okd L) {g : List UInt8} (hg : gt L k = some g) : g.length ≤ 1000000 := by
  have := (dl_used hg).1
  have := o.2
  omega
theorem one_new (n : Int) (hf : B.val h.floor ≤ B.val h.next) : FnOk Try.prog 14 [.i .i64 n] h fun y h' => y = .p h.next 0 0 3 ∧ Stay nowhere h h' ∧ ∃ P, One h' h.next ⟨[], [], [], max 0 (min n 1000000)⟩ P ∧ ∀ q, P q → B.val h.next ≤ B.val q := by
  refine (snew_ok n hf).mono ?_
  rintro y h' ⟨rfl, S, st, fp⟩
  exact ⟨rfl, st, _, ⟨.m0, .l0, [], [], _, S, Rel.new (n := n), List.Pairwise.nil, List.Pairwise.nil, ⟨(fun x hx => by cases hx), (fun x hx => by cases hx)⟩, (fun u hu => by cases hu), fun q => Iff.rfl⟩, fp⟩
theorem srtD {a : DA} (h : Srt D.L) : Srt (doD D a).L := srt_done (a := a) h
theorem one_put (o : One h s D P) (hA : D.A.length ≤ 10000) (hk : k.length ≤ 1048576) (hb : b.length ≤ 1048576) (hf : B.val h.floor ≤ B.val h.next) :
    FnOk Try.prog 16 [.p s 0 0 3, sv k, sv b] h fun y h1 => y = .i .i64 (putE D k b) ∧ ∃ P', One h1 s (if putE D k b = 0 then doD D ⟨1, k, b⟩ else D) P' ∧ Grow h h1 P P' := by
  have o' := o
  obtain ⟨mp, lo, X, U, rm, S, R, s1, s2, nm, gl, fp⟩ := o
  have hac : U.length = D.A.length := by have := R.acts; rwa [List.length_map] at this
  have h2 := R.okL.2
  have h3 := R.r0
  have h4 := R.r1
  refine (sput_ok S (by omega) (by rw [R.used]; omega) (by rw [R.room]; exact h3) (by rw [R.room]; exact h4) (by omega) (by omega) hf).mono ?_
  rw [R.pe]
  rintro y h1 ⟨rfl, ha⟩
  refine ⟨rfl, ?_⟩
  by_cases e : putE D k b = 0
  · rw [if_pos e] at ha ⊢
    exact one_of S fp ha (R.put e hb) (srtD s1) s2 (nm.act hk hb) (gl_app gl fun g e => by cases e)
  · rw [if_neg e] at ha ⊢
    rw [ha]; exact ⟨P, o', Grow.refl _ _⟩
theorem one_add (o : One h s D P) (hA : D.A.length ≤ 10000) (hb : b.length ≤ 1048576) (hf : B.val h.floor ≤ B.val h.next) :
    FnOk Try.prog 18 [.p s 0 0 3, sv k, sv b] h fun y h1 => y = .i .i64 (addE D k b) ∧ ∃ P', One h1 s (if addE D k b = 0 then doD D ⟨2, k, b⟩ else D) P' ∧ Grow h h1 P P' := by
  have o' := o
  obtain ⟨mp, lo, X, U, rm, S, R, s1, s2, nm, gl, fp⟩ := o
  have hac : U.length = D.A.length := by have := R.acts; rwa [List.length_map] at this
  have h2 := R.okL
  have h3 := R.r0
  have h4 := R.r1
  have hX : X.length = D.L.length := by have := R.len; rwa [len_bX] at this
  refine (sadd_ok S (by have := h2.1; omega) (by omega) (by rw [R.used]; exact h2.2) (by rw [R.room]; exact h3) (by rw [R.room]; exact h4) (by omega) hf).mono ?_
  rw [R.ae]
  rintro y h1 ⟨rfl, ha⟩
  refine ⟨rfl, ?_⟩
  by_cases e : addE D k b = 0
  · rw [if_pos e] at ha ⊢
    have hg : ∃ v, gt D.L k = some v := by
      cases hg : gt D.L k with
      | some g => exact ⟨g, rfl⟩
      | none =>
        unfold addE at e
        rw [lookR_gt, hg] at e
        cases e
    obtain ⟨v, hg⟩ := hg
    exact one_of S fp ha (R.add e hb) (srtD s1) s2 (nm.act (nm.gt R hg) hb) (gl_app gl fun g e => by cases e)
  · rw [if_neg e] at ha ⊢
    rw [ha]; exact ⟨P, o', Grow.refl _ _⟩
theorem one_swap {o : List UInt8} (t : One h s D P) (hA : D.A.length ≤ 10000) (hk : k.length ≤ 1048576) (hf : B.val h.floor ≤ B.val h.next) :
    FnOk Try.prog 20 [.p s 0 0 3, sv o, sv k] h fun y h1 => y = .i .i64 (swapE D o k) ∧ ∃ P', One h1 s (if swapE D o k = 0 then doD D ⟨3, o, k⟩ else D) P' ∧ Grow h h1 P P' := by
  have t' := t
  obtain ⟨mp, lo, X, U, rm, S, R, s1, s2, nm, gl, fp⟩ := t
  have hac : U.length = D.A.length := by have := R.acts; rwa [List.length_map] at this
  have hX : X.length = D.L.length := by have := R.len; rwa [len_bX] at this
  have h2 := R.okL
  refine (sswap_ok S (by have := h2.1; omega) (by omega) (by omega) hf).mono ?_
  rw [R.se]
  rintro y h1 ⟨rfl, ha⟩
  refine ⟨rfl, ?_⟩
  by_cases e : swapE D o k = 0
  · rw [if_pos e] at ha ⊢
    have hg : ∃ v, gt D.L o = some v := by
      cases hg : gt D.L o with
      | some g => exact ⟨g, rfl⟩
      | none =>
        unfold swapE at e
        rw [lookR_gt, hg] at e
        by_cases h1 : nameP k = false
        · rw [if_pos h1] at e; cases e
        · rw [if_neg h1] at e; cases e
    obtain ⟨v, hg⟩ := hg
    refine one_of S fp ha (R.swap e hk) (srtD s1) s2 (nm.act (nm.gt R hg) hk) (gl_app gl fun g e => ?_)
    have e : (if o = k then none else gt (bX X) k) = some g := e
    by_cases e2 : o = k
    · rw [if_pos e2] at e; cases e
    · rw [if_neg e2, R.sam] at e
      exact gt_okd h2 e
  · rw [if_neg e] at ha ⊢
    rw [ha]; exact ⟨P, t', Grow.refl _ _⟩
theorem one_drop (t : One h s D P) (hA : D.A.length ≤ 10000) (hf : B.val h.floor ≤ B.val h.next) :
    FnOk Try.prog 22 [.p s 0 0 3, sv k] h fun y h1 => y = .i .i64 (dropE D k) ∧ ∃ P', One h1 s (if dropE D k = 0 then doD D ⟨4, k, []⟩ else D) P' ∧ Grow h h1 P P' := by
  have t' := t
  obtain ⟨mp, lo, X, U, rm, S, R, s1, s2, nm, gl, fp⟩ := t
  have hac : U.length = D.A.length := by have := R.acts; rwa [List.length_map] at this
  have hX : X.length = D.L.length := by have := R.len; rwa [len_bX] at this
  have h2 := R.okL
  refine (sdrop_ok S (by have := h2.1; omega) (by omega) hf).mono ?_
  cases hg : gt (bX X) k with
  | none =>
    rintro y h1 ⟨rfl, rfl⟩
    have e : dropE D k = 14 := by unfold dropE; rw [lookR_gt, ← R.sam, hg]; rfl
    rw [e]
    exact ⟨rfl, P, t', Grow.refl _ _⟩
  | some g =>
    rintro y h1 ⟨rfl, ha⟩
    have e : dropE D k = 0 := by unfold dropE; rw [lookR_gt, ← R.sam, hg]; rfl
    rw [e, if_pos rfl]
    exact ⟨rfl, one_of S fp ha (R.drop hg) (srtD s1) s2 (nm.act (nm.gt R (by rw [← R.sam]; exact hg)) (Nat.zero_le _)) (gl_app gl fun g' e => by cases e; rw [R.sam] at hg; exact gt_okd h2 hg)⟩
theorem one_keep (t : One h s D P) : FnOk Try.prog 24 [.p s 0 0 3] h fun y h1 => y = .tu [] ∧ ∃ P', One h1 s { D with K := D.L, A := [] } P' ∧ Grow h h1 P P' := by
  obtain ⟨mp, lo, X, U, rm, S, R, s1, s2, nm, gl, fp⟩ := t
  refine (skeep_ok S).mono ?_
  rintro y h1 ⟨rfl, ha⟩
  exact ⟨rfl, one_of S fp ha R.keep s1 s1 ⟨nm.L R, fun a ha => by cases ha⟩ fun u hu => by cases hu⟩
theorem one_crash (t : One h s D P) (hA : D.A.length ≤ 10000) (hf : B.val h.floor ≤ B.val h.next) : FnOk Try.prog 28 [.p s 0 0 3, .i .i64 n, .i .i64 m] h fun y h1 => y = .tu [] ∧
    ∃ P', One h1 s { D with L := crashR D.K D.A n m, K := crashR D.K D.A n m, A := [] } P' ∧ Grow h h1 P P' := by
  obtain ⟨mp, lo, X, U, rm, S, R, s1, s2, nm, gl, fp⟩ := t
  have hac : U.length = D.A.length := by have := R.acts; rwa [List.length_map] at this
  refine (scrash_ok S R (by omega) hf).mono ?_
  rintro y h1 ⟨rfl, C', hs, ha⟩
  have hn : (nam C').Nodup := by
    obtain ⟨mp', lo', X', U', rfl, _, S', st, fp'⟩ := ha
    have := S'.nod
    have e : nam (bX X') = nam X' := by
      unfold nam
      show List.map _ (List.map _ _) = _
      rw [List.map_map]; rfl
    rw [e]; exact this
  exact ⟨rfl, one_of S fp ha (R.crash hn hs) (srt_crash s2) (srt_crash s2) ⟨nm_crash nm, fun a ha => by cases ha⟩ fun u hu => by cases hu⟩
theorem one_get (t : One h s D P) : FnOk Try.prog 31 [.p s 0 0 3, sv k] h fun y h' => y = .tu [sv ((gt D.L k).getD []), .i .i64 (if gt D.L k = none then 14 else 0)] ∧ h' = h := by
  obtain ⟨mp, lo, X, U, rm, S, R, s1, s2, nm, gl, fp⟩ := t
  have := sget_ok S (k := k)
  rwa [R.sam] at this
theorem one_names (t : One h s D P) (hf : B.val h.floor ≤ B.val h.next) : FnOk Try.prog 35 [.p s 0 0 3] h fun y h' => Ss 1 kC h' y (nam D.L) ∧ Stay nowhere h h' ∧ ∀ p, isOf y p → B.val h.next ≤ B.val p := by
  obtain ⟨mp, lo, X, U, rm, S, R, s1, s2, nm, gl, fp⟩ := t
  have hX : X.length = D.L.length := by have := R.len; rwa [len_bX] at this
  have h2 := R.okL.1
  have := names_ok S (fun x hx => nm.L R (x.1, x.2.2) (R.perm.mem_iff.1 (List.mem_map.2 ⟨x, hx, rfl⟩))) (by omega) hf
  rwa [names_eq R s1] at this
theorem one_used (t : One h s D P) : FnOk Try.prog 36 [.p s 0 0 3] h fun y h' => y = .i .i64 (usedR D.L : Int) ∧ h' = h := by
  obtain ⟨mp, lo, X, U, rm, S, R, s1, s2, nm, gl, fp⟩ := t
  have h2 := R.okL.2
  have := sused_ok S (by rw [R.used]; omega)
  rwa [R.used] at this
theorem one_left (t : One h s D P) : FnOk Try.prog 48 [.p s 0 0 3] h fun y h' => y = .i .i64 (max (D.most - (usedR D.L : Int)) 0) ∧ h' = h := by
  obtain ⟨mp, lo, X, U, rm, S, R, s1, s2, nm, gl, fp⟩ := t
  have h2 := R.okL.2
  have h3 := R.r0
  have h4 := R.r1
  have := sleft_ok S (by rw [R.used]; omega) (by rw [R.room]; exact h3) (by rw [R.room]; exact h4)
  rwa [R.used, R.room] at this
theorem one_loose (t : One h s D P) (hA : D.A.length ≤ 10000) : FnOk Try.prog 34 [.p s 0 0 3] h fun y h' => y = .i .i64 (D.A.length : Int) ∧ h' = h := by
  obtain ⟨mp, lo, X, U, rm, S, R, s1, s2, nm, gl, fp⟩ := t
  have hac : U.length = D.A.length := by have := R.acts; rwa [List.length_map] at this
  have := sloose_ok S (by omega)
  rwa [hac] at this
/-- the copy's contract, whatever order its files come in -/
theorem sam_perm {C L : List Fi} (hn : (nam C).Nodup) (p : C.Perm L) : Sam C L := fun k => by
  have hl : (nam L).Nodup := (p.map _).nodup_iff.1 hn
  cases hg : gt C k with
  | some v => 
    have hm : (k, v) ∈ L := p.mem_iff.1 ((gt_perm hg).mem_iff.2 (List.mem_cons_self ..))
    cases hk : gt L k with
    | none => exact absurd (List.mem_map.2 ⟨_, hm, rfl⟩) (gt_none.1 hk)
    | some w =>
      have h2 := (gt_perm hk)
      have h3 : (k, v) ∈ (k, w) :: dl L k := h2.mem_iff.1 hm
      rcases List.mem_cons.1 h3 with e | e
      · rw [(Prod.mk.inj e).2]
      · have : gt (dl L k) k = none := by rw [gt_dl hl, if_pos rfl]
        exact absurd (List.mem_map.2 ⟨_, e, rfl⟩) (gt_none.1 this)
  | none =>
    have h1 := gt_none.1 hg
    exact (gt_none.2 fun e => h1 ((p.map _).mem_iff.2 e)).symm
theorem used_mem : ∀ {L : List Fi} {x : Fi}, x ∈ L → x.2.length ≤ usedR L
  | a :: L, x, h => by
    have e : usedR (a :: L) = a.2.length + usedR L := by unfold usedR; rw [List.map_cons, List.sum_cons]
    rcases List.mem_cons.1 h with h1 | h1
    · rw [e, h1]; omega
    · have := used_mem h1; omega
theorem one_copy (t : One h s D P) (hA : D.A.length ≤ 10000) (hf : B.val h.floor ≤ B.val h.next) : FnN Try.prog 30 [.p s 0 0 3] h fun y h' => Stay nowhere h h' ∧ ∃ c P', y = .p c 0 0 3 ∧ One h' c D P' ∧ ∀ q, P' q → B.val h.next ≤ B.val q := by
  obtain ⟨mp, lo, X, U, rm, S, R, s1, s2, nm, gl, fp⟩ := t
  have hac : U.length = D.A.length := by have := R.acts; rwa [List.length_map] at this
  have hX : X.length = D.L.length := by have := R.len; rwa [len_bX] at this
  have okL := R.okL
  have hmap := S.map
  have src : SrcR (reFloor h).next (reFloor h) s mp lo X U rm := by
    rw [reFloor_next]
    refine ⟨row_re S.own.row, ?_, ss_re' (Ss.buf S.buf rfl actG_len (by omega)), fun hlo => ?_, fun f hf => (S.fil f hf).r.re, S.slt, fun q hq => (S.buf.own hq).2⟩
    · rcases hmap with ⟨e1, e2, _⟩ | ⟨id, e, mC⟩
      · exact .inl ⟨e1, e2⟩
      · exact .inr ⟨id, e, mC.b.mf, mC.lt⟩
    · rcases S.buf with ⟨e, _⟩ | ⟨id, g, nn, blk, e, h1, h2, _⟩
      · exact absurd e hlo
      · intro e; subst e
        have : (0 : Nat) = nn * 6 := h2
        omega
  have hlen : ∀ f ∈ live X U, f.2.length ≤ 1000000 := fun f hf => by
    rcases List.mem_append.1 hf with h1 | h1
    · obtain ⟨x, hx, rfl⟩ := List.mem_map.1 h1
      have hm : (x.1, x.2.2) ∈ D.L := R.perm.mem_iff.1 (List.mem_map.2 ⟨x, hx, rfl⟩)
      have : x.2.2.length ≤ usedR D.L := by
        exact used_mem hm
      have := okL.2
      omega
    · obtain ⟨u, hu, h2⟩ := List.mem_flatMap.1 h1
      cases hg : u.gone with
      | none => rw [hg] at h2; cases h2
      | some f0 =>
        rw [hg] at h2
        have : f = f0 := by simpa using h2
        subst this
        exact gl (absA u) (List.mem_map.2 ⟨u, hu, rfl⟩) f.2 (by unfold absA; rw [hg]; rfl)
  have := copy_n src (by have := okL.1; omega) (by omega) hlen (by rw [reFloor_floor, reFloor_next]; exact Nat.le_refl _)
  refine (FnN.low hf this).mono ?_
  rintro y g ⟨g', ⟨c, cm, lo', X', U', rfl, cx, hp, hu⟩, f1, n1, st, rfl⟩
  rw [reFloor_next] at cx
  have loB : Buf (unFloor h g') 84 6 lo' (U'.flatMap actG) := by
    rcases cx.loo with ⟨rfl, rfl⟩ | ⟨hne, q, rfl, o, l⟩
    · exact Buf.nil _ _ _
    · obtain ⟨⟨blk, h1, h2, h3, h4, h5, h6, h7⟩, o2, o3⟩ := o.un f1 hf
      have hl := fm_len actG_len U'
      refine .inr ⟨q, 0, U'.length, blk, by rw [hl], ?_, hl, o2, o3, h1, ⟨by omega, by omega⟩, h6, h5, h4, h7⟩
      cases U' with
      | nil => exact absurd rfl hne
      | cons a l => simp
  have S' : ShM (unFloor h g') c (.m cm) lo' X' U' U' rm :=
    ⟨(cx.own.un f1 hf).own, .inr ⟨cm, rfl, mapC_un cx.map f1 hf⟩, loB, fun f hf' => ((cx.fil f hf').un f1 hf).m, fun e => cx.cc (by cases e; rfl), cx.ls, fun id e => by cases e; exact cx.lm, fun f hf' q hq => ⟨(cx.fs f hf' q hq).2.1, fun e => (cx.fs f hf' q hq).2.2.1 (by cases e; rfl), (cx.fs f hf' q hq).2.2.2⟩, cx.fp⟩
  have hn' : (nam (bX X')).Nodup := (hp.map _).nodup_iff.2 R.nodC
  refine ⟨st, c, _, rfl, ⟨.m cm, lo', X', U', rm, S', ⟨fun k => (sam_perm hn' hp k).trans (R.sam k), hn', R.nodK, R.ok, R.run, by rw [hu]; exact R.chain, R.room, R.r0, R.r1⟩, s1, s2, nm, by rw [hu]; exact gl, fun q => Iff.rfl⟩, ?_⟩
  rintro q (e | e | e | ⟨f, hf', e⟩)
  · rw [e]; exact cx.nc
  · cases e; exact cx.nm
  · rcases cx.loo with ⟨_, rfl⟩ | ⟨_, q', rfl, o, l⟩
    · obtain ⟨_, _, _, _, _, e⟩ := e; cases e
    · obtain ⟨_, _, _, _, _, e⟩ := e; cases e; exact l
  · exact (cx.fs f hf' q e).1
end
end Go.Proofs.Ytjlhfoadabkahaa

set_option maxRecDepth 1000000
set_option linter.all false
namespace Go.Proofs.Ytjlhfoadabkahaa
open Go Go.Ev
noncomputable abbrev s12_0 : CC := (CC.region [(wB 12 (doCall 14 [(oN 20)])), (wB 1 (doMove (tm 12)))])
noncomputable abbrev s12_1 : CC := (CC.seq (CC.region [(wB 0 (doMove (O.c (V.b Bool.false))))]) CC.ret)
noncomputable abbrev s12_2 : CC := (CC.cond (tm 14) s12_1 CC.skip)
noncomputable abbrev s12_3 : CC := (CC.seq (CC.region [(wB 13 (doMove (tm 1))), (wB 14 (doPtr Bool.false (tm 13) (O.c V.p0)))]) s12_2)
noncomputable abbrev s12_4 : CC := (CC.region [(wB 15 (doMove (tm 1))), (wB 16 (doCall 16 [(tm 15), (O.c (V.s 1 120)), (O.c (V.s 2 24930))])), (wB 2 (doMove (tm 16)))])
noncomputable abbrev s12_5 : CC := (CC.region [(wB 17 (doMove (tm 1))), (wB 18 (doCall 24 [(tm 17)]))])
noncomputable abbrev s12_6 : CC := (CC.region [(wB 19 (doMove (tm 1))), (wB 20 (doCall 18 [(tm 19), (O.c (V.s 1 120)), (O.c (V.s 2 25444))])), (wB 3 (doMove (tm 20)))])
noncomputable abbrev s12_7 : CC := (CC.region [(wB 21 (doMove (tm 1))), (wB 22 (doCall 16 [(tm 21), (O.c (V.s 1 121)), (O.c (V.s 1 113))])), (wB 4 (doMove (tm 22)))])
noncomputable abbrev s12_8 : CC := (CC.region [(wB 23 (doMove (tm 1))), (wB 24 (doCall 16 [(tm 23), (O.c (V.s 1 89)), (O.c (V.s 0 0))])), (wB 5 (doMove (tm 24)))])
noncomputable abbrev s12_9 : CC := (CC.region [(wB 25 (doMove (tm 1))), (wB 26 (doCall 18 [(tm 25), (O.c (V.s 1 122)), (O.c (V.s 0 0))])), (wB 6 (doMove (tm 26)))])
noncomputable abbrev s12_10 : CC := (CC.region [(wB 27 (doMove (tm 1))), (wB 28 (doCall 16 [(tm 27), (O.c (V.s 1 119)), (O.c (V.s 20 275128666552365745816705927789606773184219527225))])), (wB 7 (doMove (tm 28)))])
noncomputable abbrev s12_11 : CC := (CC.region [(wB 29 (doMove (tm 1))), (wB 30 (doCall 34 [(tm 29)])), (wB 8 (doMove (tm 30)))])
noncomputable abbrev c12_0 : CaP := (CaP.mk [(wB 31 (doMove (tm 1)))] 30 [(tm 31)] 32 [(wB 9 (doMove (tm 32)))])
noncomputable abbrev s12_12 : CC := (CC.seq (CC.region [(wB 42 (doMove (tm 2))), (wB 43 (bin2 fEql (tm 42) (oN 0))), (wB 44 (doMove (tm 43))), (wG 44 true 45 (doMove (tm 3))), (wG 44 true 46 (bin2 fEql (tm 45) (oN 0))), (wB 47 (doPick (tm 44) (tm 46) (O.c (V.b Bool.false)))), (wB 48 (doMove (tm 47))), (wG 48 true 49 (doMove (tm 4))), (wG 48 true 50 (bin2 fEql (tm 49) (oN 0))), (wB 51 (doPick (tm 48) (tm 50) (O.c (V.b Bool.false)))), (wB 52 (doMove (tm 51))), (wG 52 true 53 (doMove (tm 5))), (wG 52 true 54 (bin2 fEql (tm 53) (oN 10))), (wB 55 (doPick (tm 52) (tm 54) (O.c (V.b Bool.false)))), (wB 56 (doMove (tm 55))), (wG 56 true 57 (doMove (tm 6))), (wG 56 true 58 (bin2 fEql (tm 57) (oN 14))), (wB 59 (doPick (tm 56) (tm 58) (O.c (V.b Bool.false)))), (wB 60 (doMove (tm 59))), (wG 60 true 61 (doMove (tm 7))), (wG 60 true 62 (bin2 fEql (tm 61) (oN 15))), (wB 63 (doPick (tm 60) (tm 62) (O.c (V.b Bool.false)))), (wB 64 (doMove (tm 63))), (wG 64 true 65 (doMove (tm 8))), (wG 64 true 66 (bin2 fEql (tm 65) (oN 2))), (wB 67 (doPick (tm 64) (tm 66) (O.c (V.b Bool.false)))), (wB 68 (doMove (tm 67))), (wG 68 true 69 (doMove (tm 11))), (wG 68 true 70 (bin2 fEql (tm 69) (oN 0))), (wB 71 (doPick (tm 68) (tm 70) (O.c (V.b Bool.false)))), (wB 72 (doMove (tm 71))), (wG 72 true 73 (doMove (tm 10))), (wG 72 true 74 (doSCmp eqS (tm 73) (O.c (V.s 3 6382179)))), (wB 75 (doPick (tm 72) (tm 74) (O.c (V.b Bool.false)))), (wB 76 (doMove (tm 75))), (wG 76 true 77 (doMove (tm 1))), (wG 76 true 78 (doCall 35 [(tm 77)])), (wG 76 true 79 (doLen (tm 78))), (wG 76 true 80 (bin2 fEql (tm 79) (oN 1))), (wB 81 (doPick (tm 76) (tm 80) (O.c (V.b Bool.false)))), (wB 82 (doMove (tm 81))), (wG 82 true 83 (doMove (tm 9))), (wG 82 true 84 (doCall 35 [(tm 83)])), (wG 82 true 85 (doLen (tm 84))), (wG 82 true 86 (bin2 fEql (tm 85) (oN 2))), (wB 87 (doPick (tm 82) (tm 86) (O.c (V.b Bool.false)))), (wB 88 (doMove (tm 87))), (wG 88 true 89 (doMove (tm 1))), (wG 88 true 90 (doCall 36 [(tm 89)])), (wG 88 true 91 (bin2 fEql (tm 90) (oN 3))), (wB 92 (doPick (tm 88) (tm 91) (O.c (V.b Bool.false)))), (wB 93 (doMove (tm 92))), (wG 93 true 94 (doMove (tm 1))), (wG 93 true 95 (doCall 48 [(tm 94)])), (wG 93 true 96 (bin2 fEql (tm 95) (oN 17))), (wB 97 (doPick (tm 93) (tm 96) (O.c (V.b Bool.false)))), (wB 98 (doMove (tm 97))), (wG 98 true 99 (doMove (tm 1))), (wG 98 true 100 (doCall 34 [(tm 99)])), (wG 98 true 101 (bin2 fEql (tm 100) (oN 0))), (wB 102 (doPick (tm 98) (tm 101) (O.c (V.b Bool.false)))), (wB 103 (doMove (tm 102))), (wG 103 true 104 (doMove (tm 1))), (wG 103 true 105 (doCall 20 [(tm 104), (O.c (V.s 1 120)), (O.c (V.s 1 118))])), (wG 103 true 106 (bin2 fEql (tm 105) (oN 0))), (wB 107 (doPick (tm 103) (tm 106) (O.c (V.b Bool.false)))), (wB 108 (doMove (tm 107))), (wG 108 true 109 (doMove (tm 1))), (wG 108 true 110 (doCall 22 [(tm 109), (O.c (V.s 1 118))])), (wG 108 true 111 (bin2 fEql (tm 110) (oN 0))), (wB 112 (doPick (tm 108) (tm 111) (O.c (V.b Bool.false)))), (wB 0 (doMove (tm 112)))]) CC.ret)
noncomputable abbrev s12_13 : CC := (CC.seq (CC.region [(wB 40 (doMove (tm 9))), (wB 41 (doCall 28 [(tm 40), (oN 9), (oN 9)]))]) s12_12)
noncomputable abbrev s12_14 : CC := (CC.seq (CC.region [(wB 36 (doMove (tm 1))), (wB 37 (doCall 31 [(tm 36), (O.c (V.s 1 120))])), (wB 35 (doMove (tm 37))), (wB 38 (doExtract 0 (tm 35))), (wB 39 (doExtract 1 (tm 35))), (wB 10 (doMove (tm 38))), (wB 11 (doMove (tm 39)))]) s12_13)
noncomputable abbrev s12_15 : CC := (CC.seq (CC.region [(wB 33 (doMove (tm 1))), (wB 34 (doCall 28 [(tm 33), (oN 0), (oN 1)]))]) s12_14)
noncomputable abbrev s12_16 : Sh := (Sh.cc s12_15)
noncomputable abbrev s12_17 : Sh := (Sh.seq (Sh.call c12_0) s12_16)
noncomputable abbrev s12_18 : Sh := (Sh.seq (Sh.cc s12_11) s12_17)
noncomputable abbrev s12_19 : Sh := (Sh.seq (Sh.cc s12_10) s12_18)
noncomputable abbrev s12_20 : Sh := (Sh.seq (Sh.cc s12_9) s12_19)
noncomputable abbrev s12_21 : Sh := (Sh.seq (Sh.cc s12_8) s12_20)
noncomputable abbrev s12_22 : Sh := (Sh.seq (Sh.cc s12_7) s12_21)
noncomputable abbrev s12_23 : Sh := (Sh.seq (Sh.cc s12_6) s12_22)
noncomputable abbrev s12_24 : Sh := (Sh.seq (Sh.cc s12_5) s12_23)
noncomputable abbrev s12_25 : Sh := (Sh.seq (Sh.cc s12_4) s12_24)
noncomputable abbrev s12_26 : Sh := (Sh.seq (Sh.cc s12_3) s12_25)
noncomputable abbrev s12_27 : Sh := (Sh.seq (Sh.cc s12_0) s12_26)
noncomputable abbrev b12 : Sh := (Sh.seq (Sh.cc (CC.region [(wB 0 (doMove (O.c (V.b Bool.false))))])) s12_27)
theorem cs12 : shFnN Try.prog [30] 12 = ⟨113, b12, [(Rs.tmp (slOf 0))]⟩ := by kernel_rfl
noncomputable abbrev s3_0 : CC := (CC.seq (CC.region [(wB 4 (doMove (O.c (V.b Bool.false))))]) CC.ret)
noncomputable abbrev s3_1 : CC := (CC.cond (tm 17) s3_0 CC.skip)
noncomputable abbrev s3_2 : CC := (CC.seq (CC.region [(wB 16 (doCall 12 [])), (wB 17 (doNot (tm 16)))]) s3_1)
noncomputable abbrev s3_3 : CC := (CC.seq (CC.region [(wB 4 (doMove (O.c (V.b Bool.true))))]) CC.ret)
noncomputable abbrev s3_4 : CC := (CC.cond (tm 20) s3_3 CC.skip)
noncomputable abbrev s3_5 : CC := (CC.seq (CC.region [(wB 18 (doMove (tm 1))), (wB 19 (doCall 13 [(tm 18)])), (wB 20 (doNot (tm 19)))]) s3_4)
noncomputable abbrev s3_6 : CC := (CC.region [(wB 21 (doMove (tm 0))), (wB 22 (doCall 14 [(tm 21)])), (wB 23 (doMove (tm 0))), (wB 24 (doCall 15 [(tm 23)])), (wB 5 (doMove (tm 22))), (wB 6 (doMove (tm 24)))])
noncomputable abbrev s3_7 : CC := (CC.cond (tm 28) CC.skip (CC.exit 0))
noncomputable abbrev s3_8 : CC := (CC.seq (CC.region [(wB 25 (doMove (tm 7))), (wB 26 (doMove (tm 1))), (wB 27 (doLen (tm 26))), (wB 28 (bin2 fLss (tm 25) (tm 27)))]) s3_7)
noncomputable abbrev s3_9 : CC := (CC.region [(wB 8 (doMove (oN 0))), (wB 9 (doMove (oN 0)))])
noncomputable abbrev s3_10 : CC := (CC.region [(wB 31 (doMove (tm 1))), (wB 32 (doMove (tm 7))), (wB 33 (doIndexAddr 6 (tm 31) (tm 32))), (wB 34 (doLoadA 6 (tm 33))), (wB 10 (doAlloc 31 [(V.i IntKind.i64 (Int.ofNat 0)), (V.i IntKind.i64 (Int.ofNat 0)), (V.i IntKind.i64 (Int.ofNat 0)), (V.s 0 0), (V.s 0 0), (V.s 0 0)])), (CO.mk G.none D.none Bool.true (CR.mk (doStore 6 (tm 10) (tm 34))))])
noncomputable abbrev s3_11 : CC := (CC.region [(wB 43 (doFieldAddr 0 (tm 10))), (wB 44 (doLoad (tm 43))), (wB 45 (bin2 fLeq (tm 44) (oN 1))), (wB 42 (doMove (tm 45)))])
noncomputable abbrev s3_12 : CC := (CC.draws [(uB 46 (doMove (tm 5))), (uB 47 (doFieldAddr 3 (tm 10))), (uB 48 (doLoad (tm 47))), (uB 49 (doFieldAddr 5 (tm 10))), (uB 50 (doLoad (tm 49))), (uB 51 (doCall 16 [(tm 46), (tm 48), (tm 50)])), (uB 52 (doMove (tm 6))), (uB 53 (doFieldAddr 3 (tm 10))), (uB 54 (doLoad (tm 53))), (uB 55 (doFieldAddr 5 (tm 10))), (uB 56 (doLoad (tm 55))), (wB 57 (doCall 17 [(tm 52), (tm 54), (tm 56)])), (uB 8 (doMove (tm 51))), (uB 9 (doMove (tm 57)))])
noncomputable abbrev s3_13 : Sh := (Sh.cc s3_12)
noncomputable abbrev s3_14 : CC := (CC.region [(wB 59 (doFieldAddr 0 (tm 10))), (wB 60 (doLoad (tm 59))), (wB 61 (bin2 fLeq (tm 60) (oN 3))), (wB 58 (doMove (tm 61)))])
noncomputable abbrev s3_15 : CC := (CC.draws [(uB 62 (doMove (tm 5))), (uB 63 (doFieldAddr 3 (tm 10))), (uB 64 (doLoad (tm 63))), (uB 65 (doFieldAddr 5 (tm 10))), (uB 66 (doLoad (tm 65))), (uB 67 (doCall 18 [(tm 62), (tm 64), (tm 66)])), (uB 68 (doMove (tm 6))), (uB 69 (doFieldAddr 3 (tm 10))), (uB 70 (doLoad (tm 69))), (uB 71 (doFieldAddr 5 (tm 10))), (uB 72 (doLoad (tm 71))), (wB 73 (doCall 19 [(tm 68), (tm 70), (tm 72)])), (uB 8 (doMove (tm 67))), (uB 9 (doMove (tm 73)))])
noncomputable abbrev s3_16 : Sh := (Sh.cc s3_15)
noncomputable abbrev s3_17 : CC := (CC.region [(wB 75 (doFieldAddr 0 (tm 10))), (wB 76 (doLoad (tm 75))), (wB 77 (bin2 fEql (tm 76) (oN 4))), (wB 74 (doMove (tm 77)))])
noncomputable abbrev s3_18 : CC := (CC.draws [(uB 78 (doMove (tm 5))), (uB 79 (doFieldAddr 3 (tm 10))), (uB 80 (doLoad (tm 79))), (uB 81 (doFieldAddr 4 (tm 10))), (uB 82 (doLoad (tm 81))), (uB 83 (doCall 20 [(tm 78), (tm 80), (tm 82)])), (uB 84 (doMove (tm 6))), (uB 85 (doFieldAddr 3 (tm 10))), (uB 86 (doLoad (tm 85))), (uB 87 (doFieldAddr 4 (tm 10))), (uB 88 (doLoad (tm 87))), (wB 89 (doCall 21 [(tm 84), (tm 86), (tm 88)])), (uB 8 (doMove (tm 83))), (uB 9 (doMove (tm 89)))])
noncomputable abbrev s3_19 : Sh := (Sh.cc s3_18)
noncomputable abbrev s3_20 : CC := (CC.region [(wB 91 (doFieldAddr 0 (tm 10))), (wB 92 (doLoad (tm 91))), (wB 93 (bin2 fEql (tm 92) (oN 5))), (wB 90 (doMove (tm 93)))])
noncomputable abbrev s3_21 : CC := (CC.draws [(uB 94 (doMove (tm 5))), (uB 95 (doFieldAddr 3 (tm 10))), (uB 96 (doLoad (tm 95))), (uB 97 (doCall 22 [(tm 94), (tm 96)])), (uB 98 (doMove (tm 6))), (uB 99 (doFieldAddr 3 (tm 10))), (uB 100 (doLoad (tm 99))), (wB 101 (doCall 23 [(tm 98), (tm 100)])), (uB 8 (doMove (tm 97))), (uB 9 (doMove (tm 101)))])
noncomputable abbrev s3_22 : Sh := (Sh.cc s3_21)
noncomputable abbrev s3_23 : CC := (CC.region [(wB 103 (doFieldAddr 0 (tm 10))), (wB 104 (doLoad (tm 103))), (wB 105 (bin2 fEql (tm 104) (oN 6))), (wB 102 (doMove (tm 105)))])
noncomputable abbrev s3_24 : CC := (CC.region [(wB 108 (doMove (tm 6))), (wB 109 (doCall 25 [(tm 108)]))])
noncomputable abbrev s3_25 : CC := (CC.seq (CC.region [(wB 106 (doMove (tm 5))), (wB 107 (doCall 24 [(tm 106)]))]) s3_24)
noncomputable abbrev s3_26 : Sh := (Sh.cc s3_25)
noncomputable abbrev s3_27 : CC := (CC.region [(wB 111 (doFieldAddr 0 (tm 10))), (wB 112 (doLoad (tm 111))), (wB 113 (bin2 fEql (tm 112) (oN 7))), (wB 110 (doMove (tm 113)))])
noncomputable abbrev s3_28 : CC := (CC.region [(wB 118 (doMove (tm 6))), (wB 119 (doFieldAddr 1 (tm 10))), (wB 120 (doLoad (tm 119))), (wB 121 (doCall 27 [(tm 118), (tm 120)]))])
noncomputable abbrev s3_29 : CC := (CC.seq (CC.region [(wB 114 (doMove (tm 5))), (wB 115 (doFieldAddr 1 (tm 10))), (wB 116 (doLoad (tm 115))), (wB 117 (doCall 26 [(tm 114), (tm 116)]))]) s3_28)
noncomputable abbrev s3_30 : Sh := (Sh.cc s3_29)
noncomputable abbrev s3_31 : CC := (CC.region [(wB 123 (doFieldAddr 0 (tm 10))), (wB 124 (doLoad (tm 123))), (wB 125 (bin2 fEql (tm 124) (oN 8))), (wB 122 (doMove (tm 125)))])
noncomputable abbrev s3_32 : CC := (CC.region [(wB 132 (doMove (tm 6))), (wB 133 (doFieldAddr 1 (tm 10))), (wB 134 (doLoad (tm 133))), (wB 135 (doFieldAddr 2 (tm 10))), (wB 136 (doLoad (tm 135))), (wB 137 (doCall 29 [(tm 132), (tm 134), (tm 136)]))])
noncomputable abbrev s3_33 : CC := (CC.seq (CC.region [(wB 126 (doMove (tm 5))), (wB 127 (doFieldAddr 1 (tm 10))), (wB 128 (doLoad (tm 127))), (wB 129 (doFieldAddr 2 (tm 10))), (wB 130 (doLoad (tm 129))), (wB 131 (doCall 28 [(tm 126), (tm 128), (tm 130)]))]) s3_32)
noncomputable abbrev s3_34 : Sh := (Sh.cc s3_33)
noncomputable abbrev s3_35 : CC := (CC.region [(wB 35 (doMove (tm 5))), (wB 11 (doMove (tm 35)))])
noncomputable abbrev c3_0 : CaP := (CaP.mk [(wB 36 (doMove (tm 5)))] 30 [(tm 36)] 37 [(wB 5 (doMove (tm 37)))])
noncomputable abbrev s3_36 : CC := (CC.region [(wB 40 (doMove (tm 11))), (wB 41 (doCall 16 [(tm 40), (O.c (V.s 5 478694368626)), (O.c (V.s 5 422944466291))]))])
noncomputable abbrev s3_37 : CC := (CC.seq (CC.region [(wB 38 (doMove (tm 11))), (wB 39 (doCall 28 [(tm 38), (oN 0), (oN 0)]))]) s3_36)
noncomputable abbrev s3_38 : Sh := (Sh.cc s3_37)
noncomputable abbrev s3_39 : Sh := (Sh.seq (Sh.call c3_0) s3_38)
noncomputable abbrev s3_40 : Sh := (Sh.seq (Sh.cc s3_35) s3_39)
noncomputable abbrev s3_41 : Sh := (Sh.cond (tm 122) s3_34 s3_40)
noncomputable abbrev s3_42 : Sh := (Sh.seq (Sh.cc s3_31) s3_41)
noncomputable abbrev s3_43 : Sh := (Sh.cond (tm 110) s3_30 s3_42)
noncomputable abbrev s3_44 : Sh := (Sh.seq (Sh.cc s3_27) s3_43)
noncomputable abbrev s3_45 : Sh := (Sh.cond (tm 102) s3_26 s3_44)
noncomputable abbrev s3_46 : Sh := (Sh.seq (Sh.cc s3_23) s3_45)
noncomputable abbrev s3_47 : Sh := (Sh.cond (tm 90) s3_22 s3_46)
noncomputable abbrev s3_48 : Sh := (Sh.seq (Sh.cc s3_20) s3_47)
noncomputable abbrev s3_49 : Sh := (Sh.cond (tm 74) s3_19 s3_48)
noncomputable abbrev s3_50 : Sh := (Sh.seq (Sh.cc s3_17) s3_49)
noncomputable abbrev s3_51 : Sh := (Sh.cond (tm 58) s3_16 s3_50)
noncomputable abbrev s3_52 : Sh := (Sh.seq (Sh.cc s3_14) s3_51)
noncomputable abbrev s3_53 : Sh := (Sh.cond (tm 42) s3_13 s3_52)
noncomputable abbrev s3_54 : Sh := (Sh.seq (Sh.cc s3_11) s3_53)
noncomputable abbrev s3_55 : Sh := (Sh.block 2 s3_54)
noncomputable abbrev s3_56 : CC := (CC.seq (CC.region [(wB 4 (doMove (O.c (V.b Bool.false))))]) CC.ret)
noncomputable abbrev s3_57 : CC := (CC.cond (tm 176) s3_56 CC.skip)
noncomputable abbrev s3_58 : CC := (CC.seq (CC.region [(wB 158 (doMove (tm 8))), (wB 159 (doMove (tm 9))), (wB 160 (bin2 fNeq (tm 158) (tm 159))), (wB 161 (doMove (tm 160))), (wG 161 false 162 (doMove (tm 5))), (wG 161 false 163 (doMove (tm 6))), (wG 161 false 164 (doCall 33 [(tm 162), (tm 163)])), (wG 161 false 165 (doNot (tm 164))), (wB 166 (doPick (tm 161) (O.c (V.b Bool.true)) (tm 165))), (wB 167 (doMove (tm 166))), (wG 167 false 168 (doMove (tm 12))), (wG 167 false 169 (doMove (tm 14))), (wG 167 false 170 (doSCmp (fun a b c d => !eqS a b c d) (tm 168) (tm 169))), (wB 171 (doPick (tm 167) (O.c (V.b Bool.true)) (tm 170))), (wB 172 (doMove (tm 171))), (wG 172 false 173 (doMove (tm 13))), (wG 172 false 174 (doMove (tm 15))), (wG 172 false 175 (bin2 fNeq (tm 173) (tm 174))), (wB 176 (doPick (tm 172) (O.c (V.b Bool.true)) (tm 175)))]) s3_57)
noncomputable abbrev s3_59 : CC := (CC.seq (CC.region [(wB 149 (doMove (tm 6))), (wB 150 (doMove (tm 1))), (wB 151 (doMove (tm 7))), (wB 152 (doIndexAddr 6 (tm 150) (tm 151))), (wB 153 (doFieldAddr 3 (tm 152))), (wB 154 (doLoad (tm 153))), (wB 155 (doCall 32 [(tm 149), (tm 154)])), (wB 148 (doMove (tm 155))), (wB 156 (doExtract 0 (tm 148))), (wB 157 (doExtract 1 (tm 148))), (wB 14 (doMove (tm 156))), (wB 15 (doMove (tm 157)))]) s3_58)
noncomputable abbrev s3_60 : CC := (CC.seq (CC.region [(wB 139 (doMove (tm 5))), (wB 140 (doMove (tm 1))), (wB 141 (doMove (tm 7))), (wB 142 (doIndexAddr 6 (tm 140) (tm 141))), (wB 143 (doFieldAddr 3 (tm 142))), (wB 144 (doLoad (tm 143))), (wB 145 (doCall 31 [(tm 139), (tm 144)])), (wB 138 (doMove (tm 145))), (wB 146 (doExtract 0 (tm 138))), (wB 147 (doExtract 1 (tm 138))), (wB 12 (doMove (tm 146))), (wB 13 (doMove (tm 147)))]) s3_59)
noncomputable abbrev s3_61 : Sh := (Sh.cc s3_60)
noncomputable abbrev s3_62 : Sh := (Sh.seq (Sh.seq (Sh.cc s3_10) s3_55) s3_61)
noncomputable abbrev s3_63 : Sh := (Sh.seq (Sh.cc s3_9) s3_62)
noncomputable abbrev s3_64 : CC := (CC.region [(wB 29 (doMove (tm 7))), (wB 30 (bin2 fAdd (tm 29) (oN 1))), (wB 7 (doMove (tm 30)))])
noncomputable abbrev s3_65 : Sh := (Sh.cc s3_64)
noncomputable abbrev s3_66 : Sh := (Sh.seq (Sh.block 1 s3_63) s3_65)
noncomputable abbrev s3_67 : Sh := (Sh.seq (Sh.cc s3_8) s3_66)
noncomputable abbrev s3_68 : Sh := (Sh.loop s3_67)
noncomputable abbrev s3_69 : Sh := (Sh.block 0 s3_68)
noncomputable abbrev s3_70 : CC := (CC.seq (CC.region [(wB 4 (doMove (O.c (V.b Bool.true))))]) CC.ret)
noncomputable abbrev s3_71 : Sh := (Sh.cc s3_70)
noncomputable abbrev s3_72 : Sh := (Sh.seq (Sh.seq (Sh.cc (CC.region [(wB 7 (doMove (oN 0)))])) s3_69) s3_71)
noncomputable abbrev s3_73 : Sh := (Sh.seq (Sh.cc s3_6) s3_72)
noncomputable abbrev s3_74 : Sh := (Sh.seq (Sh.cc s3_5) s3_73)
noncomputable abbrev s3_75 : Sh := (Sh.seq (Sh.cc s3_2) s3_74)
noncomputable abbrev b3 : Sh := (Sh.seq (Sh.cc (CC.region [(wB 4 (doMove (O.c (V.b Bool.false))))])) s3_75)
noncomputable abbrev s6_0 : CC := (CC.seq (CC.region [(wB 8 (doMove (O.c (V.b Bool.false))))]) CC.ret)
noncomputable abbrev s6_1 : CC := (CC.cond (tm 20) s6_0 CC.skip)
noncomputable abbrev s6_2 : CC := (CC.seq (CC.region [(wB 19 (doCall 12 [])), (wB 20 (doNot (tm 19)))]) s6_1)
noncomputable abbrev s6_3 : CC := (CC.seq (CC.region [(wB 8 (doMove (O.c (V.b Bool.true))))]) CC.ret)
noncomputable abbrev s6_4 : CC := (CC.cond (tm 28) s6_3 CC.skip)
noncomputable abbrev s6_5 : CC := (CC.seq (CC.region [(wB 21 (doMove (tm 0))), (wB 22 (doLenS (tm 21))), (wB 23 (bin2 fGtr (tm 22) (oN 100))), (wB 24 (doMove (tm 23))), (wG 24 false 25 (doMove (tm 1))), (wG 24 false 26 (doLenS (tm 25))), (wG 24 false 27 (bin2 fGtr (tm 26) (oN 100))), (wB 28 (doPick (tm 24) (O.c (V.b Bool.true)) (tm 27)))]) s6_4)
noncomputable abbrev s6_6 : CC := (CC.region [(wB 29 (doCall 14 [(oN 1000000)])), (wB 9 (doMove (tm 29)))])
noncomputable abbrev s6_7 : CC := (CC.seq (CC.region [(wB 8 (doMove (O.c (V.b Bool.false))))]) CC.ret)
noncomputable abbrev s6_8 : CC := (CC.cond (tm 33) s6_7 CC.skip)
noncomputable abbrev s6_9 : CC := (CC.seq (CC.region [(wB 30 (doMove (tm 9))), (wB 31 (doMove (tm 0))), (wB 32 (doCall 16 [(tm 30), (O.c (V.s 1 102)), (tm 31)])), (wB 33 (bin2 fNeq (tm 32) (oN 0)))]) s6_8)
noncomputable abbrev s6_10 : CC := (CC.region [(wB 34 (doMove (tm 9))), (wB 35 (doCall 24 [(tm 34)]))])
noncomputable abbrev s6_11 : CC := (CC.seq (CC.region [(wB 8 (doMove (O.c (V.b Bool.false))))]) CC.ret)
noncomputable abbrev s6_12 : CC := (CC.cond (tm 49) s6_11 CC.skip)
noncomputable abbrev s6_13 : CC := (CC.seq (CC.region [(wB 36 (doMove (tm 9))), (wB 37 (doMove (tm 1))), (wB 38 (doCall 16 [(tm 36), (O.c (V.s 3 7234935)), (tm 37)])), (wB 39 (bin2 fNeq (tm 38) (oN 0))), (wB 40 (doMove (tm 39))), (wG 40 false 41 (doMove (tm 9))), (wG 40 false 42 (doCall 20 [(tm 41), (O.c (V.s 3 7234935)), (O.c (V.s 1 102))])), (wG 40 false 43 (bin2 fNeq (tm 42) (oN 0))), (wB 44 (doPick (tm 40) (O.c (V.b Bool.true)) (tm 43))), (wB 45 (doMove (tm 44))), (wG 45 false 46 (doMove (tm 9))), (wG 45 false 47 (doCall 34 [(tm 46)])), (wG 45 false 48 (bin2 fNeq (tm 47) (oN 2))), (wB 49 (doPick (tm 45) (O.c (V.b Bool.true)) (tm 48)))]) s6_12)
noncomputable abbrev c6_0 : CaP := (CaP.mk [(wB 50 (doMove (tm 9)))] 30 [(tm 50)] 51 [(wB 10 (doMove (tm 51)))])
noncomputable abbrev s6_14 : CC := (CC.region [(wB 73 (doMove (tm 1))), (wB 15 (doMove (tm 73)))])
noncomputable abbrev s6_15 : CC := (CC.cond (tm 72) s6_14 CC.skip)
noncomputable abbrev s6_16 : CC := (CC.seq (CC.region [(wB 70 (doMove (tm 2))), (wB 71 (doRem (tm 70) (O.c (V.i IntKind.u8 (Int.ofNat 4))))), (wB 72 (bin2 fGeq (tm 71) (O.c (V.i IntKind.u8 (Int.ofNat 2)))))]) s6_15)
noncomputable abbrev s6_17 : CC := (CC.seq (CC.region [(wB 96 (doMove (tm 12))), (wB 97 (bin2 fEql (tm 96) (oN 0))), (wB 98 (doMove (tm 97))), (wG 98 true 99 (doMove (tm 11))), (wG 98 true 100 (doMove (tm 15))), (wG 98 true 101 (doSCmp eqS (tm 99) (tm 100))), (wB 102 (doPick (tm 98) (tm 101) (O.c (V.b Bool.false)))), (wB 103 (doMove (tm 102))), (wG 103 true 104 (doMove (tm 14))), (wG 103 true 105 (bin2 fEql (tm 104) (oN 0))), (wG 103 true 106 (doMove (tm 16))), (wG 103 true 107 (doBool Bool.false (tm 105) (tm 106))), (wB 108 (doPick (tm 103) (tm 107) (O.c (V.b Bool.false)))), (wB 109 (doMove (tm 108))), (wG 109 true 110 (doMove (tm 18))), (wG 109 true 111 (bin2 fEql (tm 110) (oN 0))), (wB 112 (doPick (tm 109) (tm 111) (O.c (V.b Bool.false)))), (wB 113 (doMove (tm 112))), (wG 113 true 114 (doMove (tm 17))), (wG 113 true 115 (doMove (tm 1))), (wG 113 true 116 (doSCmp eqS (tm 114) (tm 115))), (wB 117 (doPick (tm 113) (tm 116) (O.c (V.b Bool.false)))), (wB 118 (doMove (tm 117))), (wG 118 true 119 (doMove (tm 10))), (wG 118 true 120 (doCall 35 [(tm 119)])), (wG 118 true 121 (doLen (tm 120))), (wG 118 true 122 (bin2 fEql (tm 121) (oN 1))), (wB 123 (doPick (tm 118) (tm 122) (O.c (V.b Bool.false)))), (wB 8 (doMove (tm 123)))]) CC.ret)
noncomputable abbrev s6_18 : CC := (CC.seq (CC.region [(wB 92 (doMove (tm 10))), (wB 93 (doCall 31 [(tm 92), (O.c (V.s 1 102))])), (wB 91 (doMove (tm 93))), (wB 94 (doExtract 0 (tm 91))), (wB 95 (doExtract 1 (tm 91))), (wB 17 (doMove (tm 94))), (wB 18 (doMove (tm 95)))]) s6_17)
noncomputable abbrev s6_19 : CC := (CC.seq (CC.region [(wB 74 (doMove (tm 2))), (wB 75 (doRem (tm 74) (O.c (V.i IntKind.u8 (Int.ofNat 4))))), (wB 76 (bin2 fEql (tm 75) (O.c (V.i IntKind.u8 (Int.ofNat 0))))), (wB 77 (doMove (tm 76))), (wG 77 true 78 (doMove (tm 3))), (wG 77 true 79 (bin2 fGtr (tm 78) (O.c (V.i IntKind.u8 (Int.ofNat 0))))), (wB 80 (doPick (tm 77) (tm 79) (O.c (V.b Bool.false)))), (wB 81 (doMove (tm 80))), (wG 81 true 82 (doMove (tm 1))), (wG 81 true 83 (doLenS (tm 82))), (wG 81 true 84 (bin2 fGtr (tm 83) (oN 0))), (wB 85 (doPick (tm 81) (tm 84) (O.c (V.b Bool.false)))), (wB 86 (doMove (tm 85))), (wG 86 false 87 (doMove (tm 2))), (wG 86 false 88 (doRem (tm 87) (O.c (V.i IntKind.u8 (Int.ofNat 4))))), (wG 86 false 89 (bin2 fEql (tm 88) (O.c (V.i IntKind.u8 (Int.ofNat 1))))), (wB 90 (doPick (tm 86) (O.c (V.b Bool.true)) (tm 89))), (wB 16 (doMove (tm 90)))]) s6_18)
noncomputable abbrev s6_20 : CC := (CC.seq s6_16 s6_19)
noncomputable abbrev s6_21 : CC := (CC.seq (CC.region [(wB 69 (doMove (tm 0))), (wB 15 (doMove (tm 69)))]) s6_20)
noncomputable abbrev s6_22 : CC := (CC.seq (CC.region [(wB 65 (doMove (tm 9))), (wB 66 (doCall 31 [(tm 65), (O.c (V.s 3 7234935))])), (wB 64 (doMove (tm 66))), (wB 67 (doExtract 0 (tm 64))), (wB 68 (doExtract 1 (tm 64))), (wB 13 (doMove (tm 67))), (wB 14 (doMove (tm 68)))]) s6_21)
noncomputable abbrev s6_23 : CC := (CC.seq (CC.region [(wB 60 (doMove (tm 9))), (wB 61 (doCall 31 [(tm 60), (O.c (V.s 1 102))])), (wB 59 (doMove (tm 61))), (wB 62 (doExtract 0 (tm 59))), (wB 63 (doExtract 1 (tm 59))), (wB 11 (doMove (tm 62))), (wB 12 (doMove (tm 63)))]) s6_22)
noncomputable abbrev s6_24 : CC := (CC.seq (CC.region [(wB 52 (doMove (tm 9))), (wB 53 (doMove (tm 2))), (wB 54 (doRem (tm 53) (O.c (V.i IntKind.u8 (Int.ofNat 4))))), (wB 55 (doConv IntKind.i64 (tm 54))), (wB 56 (doMove (tm 3))), (wB 57 (doConv IntKind.i64 (tm 56))), (wB 58 (doCall 28 [(tm 52), (tm 55), (tm 57)]))]) s6_23)
noncomputable abbrev s6_25 : Sh := (Sh.cc s6_24)
noncomputable abbrev s6_26 : Sh := (Sh.seq (Sh.call c6_0) s6_25)
noncomputable abbrev s6_27 : Sh := (Sh.seq (Sh.cc s6_13) s6_26)
noncomputable abbrev s6_28 : Sh := (Sh.seq (Sh.cc s6_10) s6_27)
noncomputable abbrev s6_29 : Sh := (Sh.seq (Sh.cc s6_9) s6_28)
noncomputable abbrev s6_30 : Sh := (Sh.seq (Sh.cc s6_6) s6_29)
noncomputable abbrev s6_31 : Sh := (Sh.seq (Sh.cc s6_5) s6_30)
noncomputable abbrev s6_32 : Sh := (Sh.seq (Sh.cc s6_2) s6_31)
noncomputable abbrev b6 : Sh := (Sh.seq (Sh.cc (CC.region [(wB 8 (doMove (O.c (V.b Bool.false))))])) s6_32)
theorem cs6 : shFnN Try.prog [30] 6 = ⟨124, b6, [(Rs.tmp (slOf 8))]⟩ := by kernel_rfl
end Go.Proofs.Ytjlhfoadabkahaa

set_option maxRecDepth 100000
set_option maxHeartbeats 8000000
set_option linter.all false
namespace Go.Proofs.Ytjlhfoadabkahaa
open Go Go.Ev
section
variable {h : H}
theorem One.eq {s : B} {D D' : DS} {P : B → Prop} (o : One h s D P) (e : D = D') : One h s D' P := e ▸ o
theorem _root_.Go.Ev.FnOk.y {P : Program} {f : FuncId} {vs : List V} {e e' : V} (a : FnOk P f vs h fun y h' => y = e ∧ h' = h) (he : e = e') : FnOk P f vs h fun y h' => y = e' ∧ h' = h := he ▸ a
theorem known_n (hf : B.val h.floor ≤ B.val h.next) : FnN Try.prog 12 [] h fun y _ => y = .b true := by
  refine fn_so cs12 (by decide) (by simp) (by simp) fun Q hQ => ?_
  simp only [slotsF]
  repeat' (first
    | refine St.h ?_
    | simp (disch := first | omega | (simp only [lnv]; omega)) only [wlk, mwk, ↓get_put', Nat.reduceEqDiff, Nat.reduceLT, ↓reduceIte, Int.reduceToNat, Nat.reducePow, Nat.min_eq_left, Nat.reduceAdd, Nat.reduceMul, Int.reduceAdd, Int.reduceSub, Int.reduceNeg, Int.reduceMul, Int.reduceEq, Int.reduceLT, Int.reduceLE, Nat.reduceSub, Int.reduceNatCast, Nat.reduceLeDiff, sqs_m, sqs_r, sqs_e]
    | (with_reducible (first | apply cd_split | apply gd_split)) <;> (intro hc; (try simp only [hcn] at hc); (try simp only [hc]); (try simp only [hcl] at hc); try omega))
  refine CL.mk (one_new 20 hf) ?_
  rintro y h1 ⟨rfl, st, P1, o, _⟩
  have hf1 := st.fl hf
  clear st
  generalize h.next = s at o ⊢
  have o1 := o.eq (D' := ⟨[], [], [], 20⟩) (by kernel_rfl)
  clear o
  repeat' (first
    | refine St.h ?_
    | simp (disch := first | omega | (simp only [lnv]; omega)) only [wlk, mwk, ↓get_put', Nat.reduceEqDiff, Nat.reduceLT, ↓reduceIte, Int.reduceToNat, Nat.reducePow, Nat.min_eq_left, Nat.reduceAdd, Nat.reduceMul, Int.reduceAdd, Int.reduceSub, Int.reduceNeg, Int.reduceMul, Int.reduceEq, Int.reduceLT, Int.reduceLE, Nat.reduceSub, Int.reduceNatCast, Nat.reduceLeDiff, sqs_m, sqs_r, sqs_e, or_ptr, h2_ptr10]
    | (with_reducible (first | apply cd_split | apply gd_split)) <;> (intro hc; (try simp only [hcn] at hc); (try simp only [hc]); (try simp only [hcl] at hc); try omega))
  refine CL.mk (one_put o1 (k := [120]) (b := [97, 98]) (by simp) (by simp) (by simp) hf1) ?_
  rintro y h2 ⟨hy, P2, o2, g2⟩
  have hy : y = .i .i64 0 := hy.trans (by kernel_rfl)
  subst hy
  have hf2 := g2.1.fl hf1
  have o2 := o2.eq (D' := ⟨[([120], [97, 98])], [], [⟨1, [120], [97, 98]⟩], 20⟩) (by kernel_rfl)
  clear g2 o1
  repeat' (first
    | refine St.h ?_
    | simp (disch := first | omega | (simp only [lnv]; omega)) only [wlk, mwk, ↓get_put', Nat.reduceEqDiff, Nat.reduceLT, ↓reduceIte, Int.reduceToNat, Nat.reducePow, Nat.min_eq_left, Nat.reduceAdd, Nat.reduceMul, Int.reduceAdd, Int.reduceSub, Int.reduceNeg, Int.reduceMul, Int.reduceEq, Int.reduceLT, Int.reduceLE, Nat.reduceSub, Int.reduceNatCast, Nat.reduceLeDiff, sqs_m, sqs_r, sqs_e, or_ptr, h2_ptr10]
    | (with_reducible (first | apply cd_split | apply gd_split)) <;> (intro hc; (try simp only [hcn] at hc); (try simp only [hc]); (try simp only [hcl] at hc); try omega))
  refine CL.mk (one_keep o2) ?_
  rintro y h3 ⟨hy, P3, o3, g3⟩
  have hy : y = .tu [] := hy.trans (by kernel_rfl)
  subst hy
  have hf3 := g3.1.fl hf2
  have o3 := o3.eq (D' := ⟨[([120], [97, 98])], [([120], [97, 98])], [], 20⟩) (by kernel_rfl)
  clear g3 o2
  repeat' (first
    | refine St.h ?_
    | simp (disch := first | omega | (simp only [lnv]; omega)) only [wlk, mwk, ↓get_put', Nat.reduceEqDiff, Nat.reduceLT, ↓reduceIte, Int.reduceToNat, Nat.reducePow, Nat.min_eq_left, Nat.reduceAdd, Nat.reduceMul, Int.reduceAdd, Int.reduceSub, Int.reduceNeg, Int.reduceMul, Int.reduceEq, Int.reduceLT, Int.reduceLE, Nat.reduceSub, Int.reduceNatCast, Nat.reduceLeDiff, sqs_m, sqs_r, sqs_e, or_ptr, h2_ptr10]
    | (with_reducible (first | apply cd_split | apply gd_split)) <;> (intro hc; (try simp only [hcn] at hc); (try simp only [hc]); (try simp only [hcl] at hc); try omega))
  refine CL.mk (one_add o3 (k := [120]) (b := [99, 100]) (by simp) (by simp) hf3) ?_
  rintro y h4 ⟨hy, P4, o4, g4⟩
  have hy : y = .i .i64 0 := hy.trans (by kernel_rfl)
  subst hy
  have hf4 := g4.1.fl hf3
  have o4 := o4.eq (D' := ⟨[([120], [97, 98, 99, 100])], [([120], [97, 98])], [⟨2, [120], [99, 100]⟩], 20⟩) (by kernel_rfl)
  clear g4 o3
  repeat' (first
    | refine St.h ?_
    | simp (disch := first | omega | (simp only [lnv]; omega)) only [wlk, mwk, ↓get_put', Nat.reduceEqDiff, Nat.reduceLT, ↓reduceIte, Int.reduceToNat, Nat.reducePow, Nat.min_eq_left, Nat.reduceAdd, Nat.reduceMul, Int.reduceAdd, Int.reduceSub, Int.reduceNeg, Int.reduceMul, Int.reduceEq, Int.reduceLT, Int.reduceLE, Nat.reduceSub, Int.reduceNatCast, Nat.reduceLeDiff, sqs_m, sqs_r, sqs_e, or_ptr, h2_ptr10]
    | (with_reducible (first | apply cd_split | apply gd_split)) <;> (intro hc; (try simp only [hcn] at hc); (try simp only [hc]); (try simp only [hcl] at hc); try omega))
  refine CL.mk (one_put o4 (k := [121]) (b := [113]) (by simp) (by simp) (by simp) hf4) ?_
  rintro y h5 ⟨hy, P5, o5, g5⟩
  have hy : y = .i .i64 0 := hy.trans (by kernel_rfl)
  subst hy
  have hf5 := g5.1.fl hf4
  have o5 := o5.eq (D' := ⟨[([120], [97, 98, 99, 100]), ([121], [113])], [([120], [97, 98])], [⟨2, [120], [99, 100]⟩, ⟨1, [121], [113]⟩], 20⟩) (by kernel_rfl)
  clear g5 o4
  repeat' (first
    | refine St.h ?_
    | simp (disch := first | omega | (simp only [lnv]; omega)) only [wlk, mwk, ↓get_put', Nat.reduceEqDiff, Nat.reduceLT, ↓reduceIte, Int.reduceToNat, Nat.reducePow, Nat.min_eq_left, Nat.reduceAdd, Nat.reduceMul, Int.reduceAdd, Int.reduceSub, Int.reduceNeg, Int.reduceMul, Int.reduceEq, Int.reduceLT, Int.reduceLE, Nat.reduceSub, Int.reduceNatCast, Nat.reduceLeDiff, sqs_m, sqs_r, sqs_e, or_ptr, h2_ptr10]
    | (with_reducible (first | apply cd_split | apply gd_split)) <;> (intro hc; (try simp only [hcn] at hc); (try simp only [hc]); (try simp only [hcl] at hc); try omega))
  refine CL.mk (one_put o5 (k := [89]) (b := []) (by simp) (by simp) (by simp) hf5) ?_
  rintro y h6 ⟨hy, P6, o6, g6⟩
  have hy : y = .i .i64 10 := hy.trans (by kernel_rfl)
  subst hy
  have hf6 := g6.1.fl hf5
  have o6 := o6.eq (D' := ⟨[([120], [97, 98, 99, 100]), ([121], [113])], [([120], [97, 98])], [⟨2, [120], [99, 100]⟩, ⟨1, [121], [113]⟩], 20⟩) (by kernel_rfl)
  clear g6 o5
  repeat' (first
    | refine St.h ?_
    | simp (disch := first | omega | (simp only [lnv]; omega)) only [wlk, mwk, ↓get_put', Nat.reduceEqDiff, Nat.reduceLT, ↓reduceIte, Int.reduceToNat, Nat.reducePow, Nat.min_eq_left, Nat.reduceAdd, Nat.reduceMul, Int.reduceAdd, Int.reduceSub, Int.reduceNeg, Int.reduceMul, Int.reduceEq, Int.reduceLT, Int.reduceLE, Nat.reduceSub, Int.reduceNatCast, Nat.reduceLeDiff, sqs_m, sqs_r, sqs_e, or_ptr, h2_ptr10]
    | (with_reducible (first | apply cd_split | apply gd_split)) <;> (intro hc; (try simp only [hcn] at hc); (try simp only [hc]); (try simp only [hcl] at hc); try omega))
  refine CL.mk (one_add o6 (k := [122]) (b := []) (by simp) (by simp) hf6) ?_
  rintro y h7 ⟨hy, P7, o7, g7⟩
  have hy : y = .i .i64 14 := hy.trans (by kernel_rfl)
  subst hy
  have hf7 := g7.1.fl hf6
  have o7 := o7.eq (D' := ⟨[([120], [97, 98, 99, 100]), ([121], [113])], [([120], [97, 98])], [⟨2, [120], [99, 100]⟩, ⟨1, [121], [113]⟩], 20⟩) (by kernel_rfl)
  clear g7 o6
  repeat' (first
    | refine St.h ?_
    | simp (disch := first | omega | (simp only [lnv]; omega)) only [wlk, mwk, ↓get_put', Nat.reduceEqDiff, Nat.reduceLT, ↓reduceIte, Int.reduceToNat, Nat.reducePow, Nat.min_eq_left, Nat.reduceAdd, Nat.reduceMul, Int.reduceAdd, Int.reduceSub, Int.reduceNeg, Int.reduceMul, Int.reduceEq, Int.reduceLT, Int.reduceLE, Nat.reduceSub, Int.reduceNatCast, Nat.reduceLeDiff, sqs_m, sqs_r, sqs_e, or_ptr, h2_ptr10]
    | (with_reducible (first | apply cd_split | apply gd_split)) <;> (intro hc; (try simp only [hcn] at hc); (try simp only [hc]); (try simp only [hcl] at hc); try omega))
  refine CL.mk (one_put o7 (k := [119]) (b := [48, 49, 50, 51, 52, 53, 54, 55, 56, 57, 48, 49, 50, 51, 52, 53, 54, 55, 56, 57]) (by simp) (by simp) (by simp) hf7) ?_
  rintro y h8 ⟨hy, P8, o8, g8⟩
  have hy : y = .i .i64 15 := hy.trans (by kernel_rfl)
  subst hy
  have hf8 := g8.1.fl hf7
  have o8 := o8.eq (D' := ⟨[([120], [97, 98, 99, 100]), ([121], [113])], [([120], [97, 98])], [⟨2, [120], [99, 100]⟩, ⟨1, [121], [113]⟩], 20⟩) (by kernel_rfl)
  clear g8 o7
  repeat' (first
    | refine St.h ?_
    | simp (disch := first | omega | (simp only [lnv]; omega)) only [wlk, mwk, ↓get_put', Nat.reduceEqDiff, Nat.reduceLT, ↓reduceIte, Int.reduceToNat, Nat.reducePow, Nat.min_eq_left, Nat.reduceAdd, Nat.reduceMul, Int.reduceAdd, Int.reduceSub, Int.reduceNeg, Int.reduceMul, Int.reduceEq, Int.reduceLT, Int.reduceLE, Nat.reduceSub, Int.reduceNatCast, Nat.reduceLeDiff, sqs_m, sqs_r, sqs_e, or_ptr, h2_ptr10]
    | (with_reducible (first | apply cd_split | apply gd_split)) <;> (intro hc; (try simp only [hcn] at hc); (try simp only [hc]); (try simp only [hcl] at hc); try omega))
  refine CL.pure ((one_loose o8 (by simp)).y (e' := .i .i64 2) (by kernel_rfl)) ?_
  repeat' (first
    | refine St.h ?_
    | simp (disch := first | omega | (simp only [lnv]; omega)) only [wlk, mwk, ↓get_put', Nat.reduceEqDiff, Nat.reduceLT, ↓reduceIte, Int.reduceToNat, Nat.reducePow, Nat.min_eq_left, Nat.reduceAdd, Nat.reduceMul, Int.reduceAdd, Int.reduceSub, Int.reduceNeg, Int.reduceMul, Int.reduceEq, Int.reduceLT, Int.reduceLE, Nat.reduceSub, Int.reduceNatCast, Nat.reduceLeDiff, sqs_m, sqs_r, sqs_e, or_ptr, h2_ptr10]
    | (with_reducible (first | apply cd_split | apply gd_split)) <;> (intro hc; (try simp only [hcn] at hc); (try simp only [hc]); (try simp only [hcl] at hc); try omega))
  refine OkS.cn (wo_gen fun K hK => ?_)
  dsimp only [c12_0]
  repeat' (first
    | refine St.h ?_
    | simp (disch := first | omega | (simp only [lnv]; omega)) only [wlk, mwk, ↓get_put', Nat.reduceEqDiff, Nat.reduceLT, ↓reduceIte, Int.reduceToNat, Nat.reducePow, Nat.min_eq_left, Nat.reduceAdd, Nat.reduceMul, Int.reduceAdd, Int.reduceSub, Int.reduceNeg, Int.reduceMul, Int.reduceEq, Int.reduceLT, Int.reduceLE, Nat.reduceSub, Int.reduceNatCast, Nat.reduceLeDiff]
    | (with_reducible (first | apply cd_split | apply gd_split)) <;> (intro hc; (try simp only [hcn] at hc); (try simp only [hc]); (try simp only [hcl] at hc); try omega))
  subst hK
  refine ⟨_, _, one_copy o8 (by simp) hf8, by simp (disch := first | omega | (simp only [lnv]; omega)) only [wlk, mwk, ↓get_put', Nat.reduceEqDiff, Nat.reduceLT, ↓reduceIte, Int.reduceToNat, Nat.reducePow, Nat.min_eq_left, Nat.reduceAdd, Nat.reduceMul, Int.reduceAdd, Int.reduceSub, Int.reduceNeg, Int.reduceMul, Int.reduceEq, Int.reduceLT, Int.reduceLE, Nat.reduceSub, Int.reduceNatCast, Nat.reduceLeDiff], ?_⟩
  rintro y h9 ⟨st, t, T9, rfl, ot, hT⟩
  have hf9 := st.fl hf8
  have o9 := o8.grow st
  have hlt : ∀ q, P8 q → ¬ T9 q := fun q h1 h2 => by have := hT q h2; have := o8.lt h1; omega
  clear o8
  repeat' (first
    | refine St.h ?_
    | simp (disch := first | omega | (simp only [lnv]; omega)) only [wlk, mwk, ↓get_put', Nat.reduceEqDiff, Nat.reduceLT, ↓reduceIte, Int.reduceToNat, Nat.reducePow, Nat.min_eq_left, Nat.reduceAdd, Nat.reduceMul, Int.reduceAdd, Int.reduceSub, Int.reduceNeg, Int.reduceMul, Int.reduceEq, Int.reduceLT, Int.reduceLE, Nat.reduceSub, Int.reduceNatCast, Nat.reduceLeDiff, sqs_m, sqs_r, sqs_e]
    | (with_reducible (first | apply cd_split | apply gd_split)) <;> (intro hc; (try simp only [hcn] at hc); (try simp only [hc]); (try simp only [hcl] at hc); try omega))
  refine CL.mk (one_crash o9 (n := 0) (m := 1) (by simp) hf9) ?_
  rintro y h10 ⟨rfl, P10, o10, g10⟩
  have hf10 := g10.1.fl hf9
  have ot10 := ot.stay g10.1 fun q h1 h2 => hlt q h2 h1
  have hl10 := g10.keep hlt fun q h => ot.lt h
  have o10 := o10.eq (D' := ⟨[([120], [97, 98, 99])], [([120], [97, 98, 99])], [], 20⟩) (by kernel_rfl)
  clear o9 ot hlt g10
  repeat' (first
    | refine St.h ?_
    | simp (disch := first | omega | (simp only [lnv]; omega)) only [wlk, mwk, ↓get_put', Nat.reduceEqDiff, Nat.reduceLT, ↓reduceIte, Int.reduceToNat, Nat.reducePow, Nat.min_eq_left, Nat.reduceAdd, Nat.reduceMul, Int.reduceAdd, Int.reduceSub, Int.reduceNeg, Int.reduceMul, Int.reduceEq, Int.reduceLT, Int.reduceLE, Nat.reduceSub, Int.reduceNatCast, Nat.reduceLeDiff, sqs_m, sqs_r, sqs_e]
    | (with_reducible (first | apply cd_split | apply gd_split)) <;> (intro hc; (try simp only [hcn] at hc); (try simp only [hc]); (try simp only [hcl] at hc); try omega))
  refine CL.pure ((one_get o10 (k := [120])).y (e' := .tu [sv [97, 98, 99], .i .i64 0]) (by kernel_rfl)) ?_
  repeat' (first
    | refine St.h ?_
    | simp (disch := first | omega | (simp only [lnv]; omega)) only [wlk, mwk, ↓get_put', Nat.reduceEqDiff, Nat.reduceLT, ↓reduceIte, Int.reduceToNat, Nat.reducePow, Nat.min_eq_left, Nat.reduceAdd, Nat.reduceMul, Int.reduceAdd, Int.reduceSub, Int.reduceNeg, Int.reduceMul, Int.reduceEq, Int.reduceLT, Int.reduceLE, Nat.reduceSub, Int.reduceNatCast, Nat.reduceLeDiff, sqs_m, sqs_r, sqs_e]
    | (with_reducible (first | apply cd_split | apply gd_split)) <;> (intro hc; (try simp only [hcn] at hc); (try simp only [hc]); (try simp only [hcl] at hc); try omega))
  refine CL.mk (one_crash ot10 (n := 9) (m := 9) (by simp) hf10) ?_
  rintro y h11 ⟨rfl, T11, ot11, g11⟩
  have hf11 := g11.1.fl hf10
  have o11 := o10.stay g11.1 fun q h1 h2 => hl10 q h1 h2
  have ot11 := ot11.eq (D' := ⟨[([120], [97, 98, 99, 100]), ([121], [113])], [([120], [97, 98, 99, 100]), ([121], [113])], [], 20⟩) (by kernel_rfl)
  have hl11 := g11.keep (fun q h1 h2 => hl10 q h2 h1) fun q h => o10.lt h
  clear o10 ot10 g11
  have e3 : V.s 3 6382179 = sv [97, 98, 99] := by kernel_rfl
  repeat' (first
    | refine St.h ?_
    | simp (disch := first | omega | (simp only [lnv]; omega)) only [wlk, mwk, ↓get_put', Nat.reduceEqDiff, Nat.reduceLT, ↓reduceIte, Int.reduceToNat, Nat.reducePow, Nat.min_eq_left, Nat.reduceAdd, Nat.reduceMul, Int.reduceAdd, Int.reduceSub, Int.reduceNeg, Int.reduceMul, Int.reduceEq, Int.reduceLT, Int.reduceLE, Nat.reduceSub, Int.reduceNatCast, Nat.reduceLeDiff, sqs_m, sqs_r, sqs_e, e3]
    | (with_reducible (first | apply cd_split | apply gd_split)) <;> (intro hc; (try simp only [hcn] at hc); (try simp only [hc]); (try simp only [hcl] at hc); try omega))
  refine CL.mk (one_names o11 hf11) ?_
  rintro y h12 ⟨hn, st, _⟩
  have hn : Ss 1 kC h12 y [[120]] := hn
  have l1 : (([[120]] : List (List UInt8)).length : Int) = 1 := rfl
  have l2 : (([[120], [121]] : List (List UInt8)).length : Int) = 2 := rfl
  have hf12 := st.fl hf11
  have o12 := o11.grow st
  have ot12 := ot11.grow st
  clear o11 ot11 st
  repeat' (first
    | refine St.h ?_
    | simp (disch := first | omega | (simp only [lnv]; omega)) only [wlk, mwk, ↓get_put', Nat.reduceEqDiff, Nat.reduceLT, ↓reduceIte, Int.reduceToNat, Nat.reducePow, Nat.min_eq_left, Nat.reduceAdd, Nat.reduceMul, Int.reduceAdd, Int.reduceSub, Int.reduceNeg, Int.reduceMul, Int.reduceEq, Int.reduceLT, Int.reduceLE, Nat.reduceSub, Int.reduceNatCast, Nat.reduceLeDiff, sqs_m, sqs_r, sqs_e, e3, hn.ln, l1]
    | (with_reducible (first | apply cd_split | apply gd_split)) <;> (intro hc; (try simp only [hcn] at hc); (try simp only [hc]); (try simp only [hcl] at hc); try omega))
  refine CL.mk (one_names ot12 hf12) ?_
  rintro y h13 ⟨hn, st, _⟩
  have hn : Ss 1 kC h13 y [[120], [121]] := hn
  have hf13 := st.fl hf12
  have o13 := o12.grow st
  clear o12 ot12 st
  repeat' (first
    | refine St.h ?_
    | simp (disch := first | omega | (simp only [lnv]; omega)) only [wlk, mwk, ↓get_put', Nat.reduceEqDiff, Nat.reduceLT, ↓reduceIte, Int.reduceToNat, Nat.reducePow, Nat.min_eq_left, Nat.reduceAdd, Nat.reduceMul, Int.reduceAdd, Int.reduceSub, Int.reduceNeg, Int.reduceMul, Int.reduceEq, Int.reduceLT, Int.reduceLE, Nat.reduceSub, Int.reduceNatCast, Nat.reduceLeDiff, sqs_m, sqs_r, sqs_e, hn.ln, l2]
    | (with_reducible (first | apply cd_split | apply gd_split)) <;> (intro hc; (try simp only [hcn] at hc); (try simp only [hc]); (try simp only [hcl] at hc); try omega))
  refine CL.pure ((one_used o13).y (e' := .i .i64 3) (by kernel_rfl)) ?_
  repeat' (first
    | refine St.h ?_
    | simp (disch := first | omega | (simp only [lnv]; omega)) only [wlk, mwk, ↓get_put', Nat.reduceEqDiff, Nat.reduceLT, ↓reduceIte, Int.reduceToNat, Nat.reducePow, Nat.min_eq_left, Nat.reduceAdd, Nat.reduceMul, Int.reduceAdd, Int.reduceSub, Int.reduceNeg, Int.reduceMul, Int.reduceEq, Int.reduceLT, Int.reduceLE, Nat.reduceSub, Int.reduceNatCast, Nat.reduceLeDiff, sqs_m, sqs_r, sqs_e]
    | (with_reducible (first | apply cd_split | apply gd_split)) <;> (intro hc; (try simp only [hcn] at hc); (try simp only [hc]); (try simp only [hcl] at hc); try omega))
  refine CL.pure ((one_left o13).y (e' := .i .i64 17) (by kernel_rfl)) ?_
  repeat' (first
    | refine St.h ?_
    | simp (disch := first | omega | (simp only [lnv]; omega)) only [wlk, mwk, ↓get_put', Nat.reduceEqDiff, Nat.reduceLT, ↓reduceIte, Int.reduceToNat, Nat.reducePow, Nat.min_eq_left, Nat.reduceAdd, Nat.reduceMul, Int.reduceAdd, Int.reduceSub, Int.reduceNeg, Int.reduceMul, Int.reduceEq, Int.reduceLT, Int.reduceLE, Nat.reduceSub, Int.reduceNatCast, Nat.reduceLeDiff, sqs_m, sqs_r, sqs_e]
    | (with_reducible (first | apply cd_split | apply gd_split)) <;> (intro hc; (try simp only [hcn] at hc); (try simp only [hc]); (try simp only [hcl] at hc); try omega))
  refine CL.pure ((one_loose o13 (by simp)).y (e' := .i .i64 0) (by kernel_rfl)) ?_
  repeat' (first
    | refine St.h ?_
    | simp (disch := first | omega | (simp only [lnv]; omega)) only [wlk, mwk, ↓get_put', Nat.reduceEqDiff, Nat.reduceLT, ↓reduceIte, Int.reduceToNat, Nat.reducePow, Nat.min_eq_left, Nat.reduceAdd, Nat.reduceMul, Int.reduceAdd, Int.reduceSub, Int.reduceNeg, Int.reduceMul, Int.reduceEq, Int.reduceLT, Int.reduceLE, Nat.reduceSub, Int.reduceNatCast, Nat.reduceLeDiff, sqs_m, sqs_r, sqs_e]
    | (with_reducible (first | apply cd_split | apply gd_split)) <;> (intro hc; (try simp only [hcn] at hc); (try simp only [hc]); (try simp only [hcl] at hc); try omega))
  refine CL.mk (one_swap o13 (o := [120]) (k := [118]) (by simp) (by simp) hf13) ?_
  rintro y h14 ⟨hy, P14, o14, g14⟩
  have hy : y = .i .i64 0 := hy.trans (by kernel_rfl)
  subst hy
  have hf14 := g14.1.fl hf13
  have o14 := o14.eq (D' := ⟨[([118], [97, 98, 99])], [([120], [97, 98, 99])], [⟨3, [120], [118]⟩], 20⟩) (by kernel_rfl)
  clear o13
  repeat' (first
    | refine St.h ?_
    | simp (disch := first | omega | (simp only [lnv]; omega)) only [wlk, mwk, ↓get_put', Nat.reduceEqDiff, Nat.reduceLT, ↓reduceIte, Int.reduceToNat, Nat.reducePow, Nat.min_eq_left, Nat.reduceAdd, Nat.reduceMul, Int.reduceAdd, Int.reduceSub, Int.reduceNeg, Int.reduceMul, Int.reduceEq, Int.reduceLT, Int.reduceLE, Nat.reduceSub, Int.reduceNatCast, Nat.reduceLeDiff, sqs_m, sqs_r, sqs_e]
    | (with_reducible (first | apply cd_split | apply gd_split)) <;> (intro hc; (try simp only [hcn] at hc); (try simp only [hc]); (try simp only [hcl] at hc); try omega))
  refine CL.mk (one_drop o14 (k := [118]) (by simp) hf14) ?_
  rintro y h15 ⟨hy, P15, o15, g15⟩
  have hy : y = .i .i64 0 := hy.trans (by kernel_rfl)
  subst hy
  clear o15
  repeat' (first
    | refine St.h ?_
    | simp (disch := first | omega | (simp only [lnv]; omega)) only [wlk, mwk, ↓get_put', Nat.reduceEqDiff, Nat.reduceLT, ↓reduceIte, Int.reduceToNat, Nat.reducePow, Nat.min_eq_left, Nat.reduceAdd, Nat.reduceMul, Int.reduceAdd, Int.reduceSub, Int.reduceNeg, Int.reduceMul, Int.reduceEq, Int.reduceLT, Int.reduceLE, Nat.reduceSub, Int.reduceNatCast, Nat.reduceLeDiff, sqs_m, sqs_r, sqs_e]
    | (with_reducible (first | apply cd_split | apply gd_split)) <;> (intro hc; (try simp only [hcn] at hc); (try simp only [hc]); (try simp only [hcl] at hc); try omega))
  subst hQ
  rfl
theorem known5 : FnOk Try.prog 12 [] h fun y h' => y = .b true ∧ h' = h :=
  FnN.pure (known_n (by rw [reFloor_floor, reFloor_next]; exact Nat.le_refl _)) fun ρ ρ' x hx => hx
end
end Go.Proofs.Ytjlhfoadabkahaa

set_option maxRecDepth 1000000
set_option linter.all false
namespace Go.Proofs.Ytjlhfoadabkahaa
open Go Go.Ev
noncomputable abbrev s5_0 : CC := (CC.seq (CC.region [(wB 6 (doMove (O.c (V.b Bool.false))))]) CC.ret)
noncomputable abbrev s5_1 : CC := (CC.cond (tm 16) s5_0 CC.skip)
noncomputable abbrev s5_2 : CC := (CC.seq (CC.region [(wB 15 (doCall 12 [])), (wB 16 (doNot (tm 15)))]) s5_1)
noncomputable abbrev s5_3 : CC := (CC.seq (CC.region [(wB 6 (doMove (O.c (V.b Bool.false))))]) CC.ret)
noncomputable abbrev s5_4 : CC := (CC.cond (tm 46) s5_3 CC.skip)
noncomputable abbrev s5_5 : CC := (CC.seq (CC.region [(wB 27 (doMove (tm 9))), (wB 28 (bin2 fEql (tm 27) (oN 0))), (wB 29 (doMove (tm 1))), (wB 30 (doMove (tm 0))), (wB 31 (bin2 fLeq (tm 29) (tm 30))), (wB 32 (doBool Bool.true (tm 28) (tm 31))), (wB 33 (doMove (tm 32))), (wG 33 false 34 (doMove (tm 9))), (wG 33 false 35 (bin2 fNeq (tm 34) (oN 0))), (wG 33 false 36 (doMove (tm 35))), (wG 36 true 37 (doMove (tm 9))), (wG 36 true 38 (bin2 fNeq (tm 37) (oN 15))), (wG 36 true 39 (doMove (tm 38))), (wG 39 false 40 (doMove (tm 8))), (wG 39 false 41 (doCall 35 [(tm 40)])), (wG 39 false 42 (doLen (tm 41))), (wG 39 false 43 (bin2 fNeq (tm 42) (oN 0))), (wG 36 true 44 (doPick (tm 39) (O.c (V.b Bool.true)) (tm 43))), (wG 33 false 45 (doPick (tm 36) (tm 44) (O.c (V.b Bool.false)))), (wB 46 (doPick (tm 33) (O.c (V.b Bool.true)) (tm 45)))]) s5_4)
noncomputable abbrev s5_6 : CC := (CC.seq (CC.region [(wB 6 (doMove (O.c (V.b Bool.false))))]) CC.ret)
noncomputable abbrev s5_7 : CC := (CC.cond (tm 72) s5_6 CC.skip)
noncomputable abbrev s5_8 : CC := (CC.seq (CC.region [(wB 53 (doMove (tm 10))), (wB 54 (bin2 fEql (tm 53) (oN 0))), (wB 55 (doMove (tm 1))), (wB 56 (doConv IntKind.i64 (tm 55))), (wB 57 (bin2 fMul (oN 2) (tm 56))), (wB 58 (doMove (tm 0))), (wB 59 (doConv IntKind.i64 (tm 58))), (wB 60 (bin2 fLeq (tm 57) (tm 59))), (wB 61 (doBool Bool.true (tm 54) (tm 60))), (wB 62 (doMove (tm 61))), (wG 62 false 63 (doMove (tm 10))), (wG 62 false 64 (bin2 fNeq (tm 63) (oN 0))), (wG 62 false 65 (doMove (tm 64))), (wG 65 true 66 (doMove (tm 8))), (wG 65 true 67 (doCall 36 [(tm 66)])), (wG 65 true 68 (doMove (tm 1))), (wG 65 true 69 (doConv IntKind.i64 (tm 68))), (wG 65 true 70 (bin2 fNeq (tm 67) (tm 69))), (wG 62 false 71 (doPick (tm 65) (tm 70) (O.c (V.b Bool.false)))), (wB 72 (doPick (tm 62) (O.c (V.b Bool.true)) (tm 71)))]) s5_7)
noncomputable abbrev s5_9 : CC := (CC.seq (CC.region [(wB 49 (doMove (tm 8))), (wB 50 (doMove (tm 7))), (wB 51 (doB2S (tm 50))), (wB 52 (doCall 18 [(tm 49), (O.c (V.s 1 97)), (tm 51)])), (wB 10 (doMove (tm 52)))]) s5_8)
noncomputable abbrev s5_10 : CC := (CC.cond (tm 48) s5_9 CC.skip)
noncomputable abbrev s5_11 : CC := (CC.seq (CC.region [(wB 47 (doMove (tm 9))), (wB 48 (bin2 fEql (tm 47) (oN 0)))]) s5_10)
noncomputable abbrev s5_12 : CC := (CC.cond (tm 80) CC.skip (CC.exit 0))
noncomputable abbrev s5_13 : CC := (CC.seq (CC.region [(wB 78 (doMove (tm 13))), (wB 79 (doMove (tm 12))), (wB 80 (bin2 fLss (tm 78) (tm 79)))]) s5_12)
noncomputable abbrev s5_14 : CC := (CC.seq (CC.region [(wB 6 (doMove (O.c (V.b Bool.false))))]) CC.ret)
noncomputable abbrev s5_15 : CC := (CC.cond (tm 108) s5_14 CC.skip)
noncomputable abbrev s5_16 : CC := (CC.seq (CC.region [(wB 96 (doMove (tm 14))), (wB 97 (bin2 fEql (tm 96) (oN 0))), (wB 98 (doMove (tm 13))), (wB 99 (bin2 fLss (tm 98) (oN 60))), (wB 100 (doBool Bool.true (tm 97) (tm 99))), (wB 101 (doMove (tm 100))), (wG 101 false 102 (doMove (tm 14))), (wG 101 false 103 (bin2 fNeq (tm 102) (oN 0))), (wG 101 false 104 (doMove (tm 103))), (wG 104 true 105 (doMove (tm 14))), (wG 104 true 106 (bin2 fNeq (tm 105) (oN 15))), (wG 101 false 107 (doPick (tm 104) (tm 106) (O.c (V.b Bool.false)))), (wB 108 (doPick (tm 101) (O.c (V.b Bool.true)) (tm 107)))]) s5_15)
noncomputable abbrev s5_17 : CC := (CC.seq (CC.region [(wB 83 (doMove (tm 11))), (wB 84 (doMove (tm 13))), (wB 85 (bin2 fQuo (tm 84) (oN 26))), (wB 86 (bin2 fAdd (oN 97) (tm 85))), (wB 87 (doConv IntKind.u8 (tm 86))), (wB 88 (doMove (tm 13))), (wB 89 (doRem (tm 88) (oN 26))), (wB 90 (bin2 fAdd (oN 97) (tm 89))), (wB 91 (doConv IntKind.u8 (tm 90))), (wB 92 (doBuildSlice 5 2 [(V.i IntKind.u8 (Int.ofNat 0)), (V.i IntKind.u8 (Int.ofNat 0))] [(Pt.mk 0 1 (tm 87)), (Pt.mk 1 1 (tm 91))])), (wB 93 (doB2S (tm 92))), (wB 94 (doConcat (O.c (V.s 1 102)) (tm 93))), (wB 95 (doCall 16 [(tm 83), (tm 94), (O.c (V.s 0 0))])), (wB 14 (doMove (tm 95)))]) s5_16)
noncomputable abbrev s5_18 : CC := (CC.block 1 s5_17)
noncomputable abbrev s5_19 : CC := (CC.region [(wB 81 (doMove (tm 13))), (wB 82 (bin2 fAdd (tm 81) (oN 1))), (wB 13 (doMove (tm 82)))])
noncomputable abbrev s5_20 : CC := (CC.seq s5_18 s5_19)
noncomputable abbrev l5_0 : CC := (CC.seq s5_13 s5_20)
noncomputable abbrev s5_21 : CC := (CC.loop l5_0)
noncomputable abbrev s5_22 : CC := (CC.block 0 s5_21)
noncomputable abbrev s5_23 : CC := (CC.seq (CC.region [(wB 13 (doMove (oN 0)))]) s5_22)
noncomputable abbrev s5_24 : CC := (CC.seq (CC.region [(wB 109 (doMove (tm 11))), (wB 110 (doCall 35 [(tm 109)])), (wB 111 (doLen (tm 110))), (wB 112 (doMove (tm 12))), (wB 113 (doMin (tm 112) (oN 60))), (wB 114 (bin2 fEql (tm 111) (tm 113))), (wB 6 (doMove (tm 114)))]) CC.ret)
noncomputable abbrev s5_25 : CC := (CC.seq s5_23 s5_24)
noncomputable abbrev s5_26 : CC := (CC.seq (CC.region [(wB 74 (doMove (tm 2))), (wB 75 (doRem (tm 74) (O.c (V.i IntKind.u8 (Int.ofNat 3))))), (wB 76 (doConv IntKind.i64 (tm 75))), (wB 77 (bin2 fAdd (oN 59) (tm 76))), (wB 12 (doMove (tm 77)))]) s5_25)
noncomputable abbrev s5_27 : CC := (CC.seq (CC.region [(wB 73 (doCall 14 [(oN 10)])), (wB 11 (doMove (tm 73)))]) s5_26)
noncomputable abbrev s5_28 : CC := (CC.seq s5_11 s5_27)
noncomputable abbrev s5_29 : CC := (CC.seq s5_5 s5_28)
noncomputable abbrev s5_30 : CC := (CC.seq (CC.region [(wB 23 (doMove (tm 8))), (wB 24 (doMove (tm 7))), (wB 25 (doB2S (tm 24))), (wB 26 (doCall 16 [(tm 23), (O.c (V.s 1 97)), (tm 25)])), (wB 9 (doMove (tm 26)))]) s5_29)
noncomputable abbrev s5_31 : CC := (CC.seq (CC.region [(wB 20 (doMove (tm 0))), (wB 21 (doConv IntKind.i64 (tm 20))), (wB 22 (doCall 14 [(tm 21)])), (wB 8 (doMove (tm 22)))]) s5_30)
noncomputable abbrev s5_32 : CC := (CC.seq (CC.region [(wB 17 (doMove (tm 1))), (wB 18 (doConv IntKind.i64 (tm 17))), (wB 19 (doMakeSlice 5 [(V.i IntKind.u8 (Int.ofNat 0))] (tm 18) (tm 18))), (wB 7 (doMove (tm 19)))]) s5_31)
noncomputable abbrev s5_33 : CC := (CC.seq s5_2 s5_32)
noncomputable abbrev b5 : CC := (CC.seq (CC.region [(wB 6 (doMove (O.c (V.b Bool.false))))]) s5_33)
theorem c5 : compFn Try.prog 5 = ⟨115, b5, [(Rs.tmp (slOf 6))]⟩ := by kernel_rfl
noncomputable abbrev s4_0 : CC := (CC.seq (CC.region [(wB 8 (doMove (O.c (V.b Bool.false))))]) CC.ret)
noncomputable abbrev s4_1 : CC := (CC.cond (tm 21) s4_0 CC.skip)
noncomputable abbrev s4_2 : CC := (CC.seq (CC.region [(wB 20 (doCall 12 [])), (wB 21 (doNot (tm 20)))]) s4_1)
noncomputable abbrev s4_3 : CC := (CC.seq (CC.region [(wB 8 (doMove (O.c (V.b Bool.true))))]) CC.ret)
noncomputable abbrev s4_4 : CC := (CC.cond (tm 29) s4_3 CC.skip)
noncomputable abbrev s4_5 : CC := (CC.seq (CC.region [(wB 22 (doMove (tm 0))), (wB 23 (doLen (tm 22))), (wB 24 (bin2 fGtr (tm 23) (oN 10))), (wB 25 (doMove (tm 24))), (wG 25 false 26 (doMove (tm 1))), (wG 25 false 27 (doLen (tm 26))), (wG 25 false 28 (bin2 fGtr (tm 27) (oN 10))), (wB 29 (doPick (tm 25) (O.c (V.b Bool.true)) (tm 28)))]) s4_4)
noncomputable abbrev s4_6 : CC := (CC.seq (CC.region [(wB 8 (doMove (O.c (V.b Bool.false))))]) CC.ret)
noncomputable abbrev s4_7 : CC := (CC.cond (tm 33) s4_6 CC.skip)
noncomputable abbrev s4_8 : CC := (CC.seq (CC.region [(wB 31 (doMove (tm 9))), (wB 32 (doCall 16 [(tm 31), (O.c (V.s 1 102)), (O.c (V.s 0 0))])), (wB 33 (bin2 fNeq (tm 32) (oN 0)))]) s4_7)
noncomputable abbrev s4_9 : CC := (CC.cond (tm 40) CC.skip (CC.exit 0))
noncomputable abbrev s4_10 : CC := (CC.seq (CC.region [(wB 34 (doMove (tm 11))), (wB 35 (doMove (tm 0))), (wB 36 (doLen (tm 35))), (wB 37 (doMove (tm 1))), (wB 38 (doLen (tm 37))), (wB 39 (bin2 fAdd (tm 36) (tm 38))), (wB 40 (bin2 fLss (tm 34) (tm 39)))]) s4_9)
noncomputable abbrev s4_11 : CC := (CC.region [(wB 47 (doMove (tm 9))), (wB 48 (doCall 24 [(tm 47)]))])
noncomputable abbrev s4_12 : CC := (CC.cond (tm 46) s4_11 CC.skip)
noncomputable abbrev s4_13 : CC := (CC.seq (CC.region [(wB 43 (doMove (tm 11))), (wB 44 (doMove (tm 0))), (wB 45 (doLen (tm 44))), (wB 46 (bin2 fEql (tm 43) (tm 45)))]) s4_12)
noncomputable abbrev s4_14 : CC := (CC.region [(wB 53 (doMove (tm 0))), (wB 54 (doMove (tm 11))), (wB 55 (doIndexAddr 1 (tm 53) (tm 54))), (wB 56 (doLoad (tm 55))), (wB 12 (doMove (tm 56)))])
noncomputable abbrev s4_15 : CC := (CC.region [(wB 57 (doMove (tm 1))), (wB 58 (doMove (tm 11))), (wB 59 (doMove (tm 0))), (wB 60 (doLen (tm 59))), (wB 61 (bin2 fSub (tm 58) (tm 60))), (wB 62 (doIndexAddr 1 (tm 57) (tm 61))), (wB 63 (doLoad (tm 62))), (wB 12 (doMove (tm 63)))])
noncomputable abbrev s4_16 : CC := (CC.cond (tm 52) s4_14 s4_15)
noncomputable abbrev s4_17 : CC := (CC.seq (CC.region [(wB 49 (doMove (tm 11))), (wB 50 (doMove (tm 0))), (wB 51 (doLen (tm 50))), (wB 52 (bin2 fLss (tm 49) (tm 51)))]) s4_16)
noncomputable abbrev s4_18 : CC := (CC.seq (CC.region [(wB 73 (doMove (tm 12))), (wB 74 (doLenS (tm 73))), (wB 75 (bin2 fGtr (tm 74) (oN 60))), (wB 8 (doMove (tm 75)))]) CC.ret)
noncomputable abbrev s4_19 : CC := (CC.cond (tm 72) s4_18 CC.skip)
noncomputable abbrev s4_20 : CC := (CC.seq (CC.region [(wB 64 (doMove (tm 12))), (wB 65 (doLenS (tm 64))), (wB 66 (bin2 fGtr (tm 65) (oN 60))), (wB 67 (doMove (tm 66))), (wG 67 false 68 (doMove (tm 9))), (wG 67 false 69 (doMove (tm 12))), (wG 67 false 70 (doCall 18 [(tm 68), (O.c (V.s 1 102)), (tm 69)])), (wG 67 false 71 (bin2 fNeq (tm 70) (oN 0))), (wB 72 (doPick (tm 67) (O.c (V.b Bool.true)) (tm 71)))]) s4_19)
noncomputable abbrev s4_21 : CC := (CC.region [(wB 76 (doMove (tm 10))), (wB 77 (doMove (tm 12))), (wB 78 (doConcat (tm 76) (tm 77))), (wB 10 (doMove (tm 78)))])
noncomputable abbrev s4_22 : CC := (CC.seq s4_20 s4_21)
noncomputable abbrev s4_23 : CC := (CC.seq s4_17 s4_22)
noncomputable abbrev s4_24 : CC := (CC.seq (CC.region [(wB 12 (doMove (O.c (V.s 0 0))))]) s4_23)
noncomputable abbrev s4_25 : CC := (CC.seq s4_13 s4_24)
noncomputable abbrev s4_26 : CC := (CC.block 1 s4_25)
noncomputable abbrev s4_27 : CC := (CC.region [(wB 41 (doMove (tm 11))), (wB 42 (bin2 fAdd (tm 41) (oN 1))), (wB 11 (doMove (tm 42)))])
noncomputable abbrev s4_28 : CC := (CC.seq s4_26 s4_27)
noncomputable abbrev l4_0 : CC := (CC.seq s4_10 s4_28)
noncomputable abbrev s4_29 : CC := (CC.loop l4_0)
noncomputable abbrev s4_30 : CC := (CC.block 0 s4_29)
noncomputable abbrev s4_31 : CC := (CC.seq (CC.region [(wB 11 (doMove (oN 0)))]) s4_30)
noncomputable abbrev s4_32 : CC := (CC.region [(wB 82 (doMove (tm 9))), (wB 83 (doCall 24 [(tm 82)]))])
noncomputable abbrev s4_33 : CC := (CC.cond (tm 81) s4_32 CC.skip)
noncomputable abbrev s4_34 : CC := (CC.seq (CC.region [(wB 79 (doMove (tm 1))), (wB 80 (doLen (tm 79))), (wB 81 (bin2 fEql (tm 80) (oN 0)))]) s4_33)
noncomputable abbrev s4_35 : CC := (CC.cond (tm 87) CC.skip (CC.exit 2))
noncomputable abbrev s4_36 : CC := (CC.seq (CC.region [(wB 84 (doMove (tm 15))), (wB 85 (doMove (tm 0))), (wB 86 (doLen (tm 85))), (wB 87 (bin2 fLss (tm 84) (tm 86)))]) s4_35)
noncomputable abbrev s4_37 : CC := (CC.region [(wB 90 (doMove (tm 13))), (wB 91 (doMove (tm 0))), (wB 92 (doMove (tm 15))), (wB 93 (doIndexAddr 1 (tm 91) (tm 92))), (wB 94 (doLoad (tm 93))), (wB 95 (doLenS (tm 94))), (wB 96 (bin2 fAdd (tm 90) (tm 95))), (wB 13 (doMove (tm 96)))])
noncomputable abbrev s4_38 : CC := (CC.block 3 s4_37)
noncomputable abbrev s4_39 : CC := (CC.region [(wB 88 (doMove (tm 15))), (wB 89 (bin2 fAdd (tm 88) (oN 1))), (wB 15 (doMove (tm 89)))])
noncomputable abbrev s4_40 : CC := (CC.seq s4_38 s4_39)
noncomputable abbrev l4_1 : CC := (CC.seq s4_36 s4_40)
noncomputable abbrev s4_41 : CC := (CC.loop l4_1)
noncomputable abbrev s4_42 : CC := (CC.block 2 s4_41)
noncomputable abbrev s4_43 : CC := (CC.seq (CC.region [(wB 15 (doMove (oN 0)))]) s4_42)
noncomputable abbrev s4_44 : CC := (CC.cond (tm 106) CC.skip (CC.exit 4))
noncomputable abbrev s4_45 : CC := (CC.seq (CC.region [(wB 97 (doMove (tm 16))), (wB 98 (doMove (tm 1))), (wB 99 (doLen (tm 98))), (wB 100 (bin2 fLss (tm 97) (tm 99))), (wB 101 (doMove (tm 100))), (wG 101 true 102 (doMove (tm 16))), (wG 101 true 103 (doMove (tm 2))), (wG 101 true 104 (doConv IntKind.i64 (tm 103))), (wG 101 true 105 (bin2 fLss (tm 102) (tm 104))), (wB 106 (doPick (tm 101) (tm 105) (O.c (V.b Bool.false))))]) s4_44)
noncomputable abbrev s4_46 : CC := (CC.region [(wB 109 (doMove (tm 14))), (wB 110 (doMove (tm 1))), (wB 111 (doMove (tm 16))), (wB 112 (doIndexAddr 1 (tm 110) (tm 111))), (wB 113 (doLoad (tm 112))), (wB 114 (doLenS (tm 113))), (wB 115 (bin2 fAdd (tm 109) (tm 114))), (wB 14 (doMove (tm 115)))])
noncomputable abbrev s4_47 : CC := (CC.block 5 s4_46)
noncomputable abbrev s4_48 : CC := (CC.region [(wB 107 (doMove (tm 16))), (wB 108 (bin2 fAdd (tm 107) (oN 1))), (wB 16 (doMove (tm 108)))])
noncomputable abbrev s4_49 : CC := (CC.seq s4_47 s4_48)
noncomputable abbrev l4_2 : CC := (CC.seq s4_45 s4_49)
noncomputable abbrev s4_50 : CC := (CC.loop l4_2)
noncomputable abbrev s4_51 : CC := (CC.block 4 s4_50)
noncomputable abbrev s4_52 : CC := (CC.seq (CC.region [(wB 16 (doMove (oN 0)))]) s4_51)
noncomputable abbrev s4_53 : CC := (CC.region [(wB 121 (doMove (tm 3))), (wB 122 (doConv IntKind.i64 (tm 121))), (wB 123 (doMove (tm 1))), (wB 124 (doMove (tm 2))), (wB 125 (doIndexAddr 1 (tm 123) (tm 124))), (wB 126 (doLoad (tm 125))), (wB 127 (doLenS (tm 126))), (wB 128 (doMin (tm 122) (tm 127))), (wB 17 (doMove (tm 128)))])
noncomputable abbrev s4_54 : CC := (CC.cond (tm 120) s4_53 CC.skip)
noncomputable abbrev s4_55 : CC := (CC.seq (CC.region [(wB 116 (doMove (tm 2))), (wB 117 (doConv IntKind.i64 (tm 116))), (wB 118 (doMove (tm 1))), (wB 119 (doLen (tm 118))), (wB 120 (bin2 fLss (tm 117) (tm 119)))]) s4_54)
noncomputable abbrev s4_56 : CC := (CC.seq (CC.region [(wB 8 (doMove (O.c (V.b Bool.false))))]) CC.ret)
noncomputable abbrev s4_57 : CC := (CC.cond (tm 133) s4_56 CC.skip)
noncomputable abbrev s4_58 : CC := (CC.seq (CC.region [(wB 129 (doMove (tm 9))), (wB 130 (doCall 34 [(tm 129)])), (wB 131 (doMove (tm 1))), (wB 132 (doLen (tm 131))), (wB 133 (bin2 fNeq (tm 130) (tm 132)))]) s4_57)
noncomputable abbrev s4_59 : CC := (CC.seq (CC.region [(wB 145 (doMove (tm 19))), (wB 146 (bin2 fEql (tm 145) (oN 0))), (wB 147 (doMove (tm 146))), (wG 147 true 148 (doMove (tm 18))), (wG 147 true 149 (doMove (tm 10))), (wG 147 true 150 (doMove (tm 13))), (wG 147 true 151 (doMove (tm 14))), (wG 147 true 152 (bin2 fAdd (tm 150) (tm 151))), (wG 147 true 153 (doMove (tm 17))), (wG 147 true 154 (bin2 fAdd (tm 152) (tm 153))), (wG 147 true 155 (doSSlice (tm 149) none (some (tm 154)))), (wG 147 true 156 (doSCmp eqS (tm 148) (tm 155))), (wB 157 (doPick (tm 147) (tm 156) (O.c (V.b Bool.false)))), (wB 158 (doMove (tm 157))), (wG 158 true 159 (doMove (tm 9))), (wG 158 true 160 (doCall 34 [(tm 159)])), (wG 158 true 161 (bin2 fEql (tm 160) (oN 0))), (wB 162 (doPick (tm 158) (tm 161) (O.c (V.b Bool.false)))), (wB 8 (doMove (tm 162)))]) CC.ret)
noncomputable abbrev s4_60 : CC := (CC.seq (CC.region [(wB 141 (doMove (tm 9))), (wB 142 (doCall 31 [(tm 141), (O.c (V.s 1 102))])), (wB 140 (doMove (tm 142))), (wB 143 (doExtract 0 (tm 140))), (wB 144 (doExtract 1 (tm 140))), (wB 18 (doMove (tm 143))), (wB 19 (doMove (tm 144)))]) s4_59)
noncomputable abbrev s4_61 : CC := (CC.seq (CC.region [(wB 134 (doMove (tm 9))), (wB 135 (doMove (tm 2))), (wB 136 (doConv IntKind.i64 (tm 135))), (wB 137 (doMove (tm 3))), (wB 138 (doConv IntKind.i64 (tm 137))), (wB 139 (doCall 28 [(tm 134), (tm 136), (tm 138)]))]) s4_60)
noncomputable abbrev s4_62 : CC := (CC.seq s4_58 s4_61)
noncomputable abbrev s4_63 : CC := (CC.seq s4_55 s4_62)
noncomputable abbrev s4_64 : CC := (CC.seq (CC.region [(wB 17 (doMove (oN 0)))]) s4_63)
noncomputable abbrev s4_65 : CC := (CC.seq s4_52 s4_64)
noncomputable abbrev s4_66 : CC := (CC.seq s4_43 s4_65)
noncomputable abbrev s4_67 : CC := (CC.seq (CC.region [(wB 13 (doMove (oN 0))), (wB 14 (doMove (oN 0)))]) s4_66)
noncomputable abbrev s4_68 : CC := (CC.seq s4_34 s4_67)
noncomputable abbrev s4_69 : CC := (CC.seq s4_31 s4_68)
noncomputable abbrev s4_70 : CC := (CC.seq (CC.region [(wB 10 (doMove (O.c (V.s 0 0))))]) s4_69)
noncomputable abbrev s4_71 : CC := (CC.seq s4_8 s4_70)
noncomputable abbrev s4_72 : CC := (CC.seq (CC.region [(wB 30 (doCall 14 [(oN 1000000)])), (wB 9 (doMove (tm 30)))]) s4_71)
noncomputable abbrev s4_73 : CC := (CC.seq s4_5 s4_72)
noncomputable abbrev s4_74 : CC := (CC.seq s4_2 s4_73)
noncomputable abbrev b4 : CC := (CC.seq (CC.region [(wB 8 (doMove (O.c (V.b Bool.false))))]) s4_74)
theorem c4 : compFn Try.prog 4 = ⟨163, b4, [(Rs.tmp (slOf 8))]⟩ := by kernel_rfl
noncomputable abbrev s7_0 : CC := (CC.seq (CC.region [(wB 6 (doMove (O.c (V.b Bool.false))))]) CC.ret)
noncomputable abbrev s7_1 : CC := (CC.cond (tm 11) s7_0 CC.skip)
noncomputable abbrev s7_2 : CC := (CC.seq (CC.region [(wB 10 (doCall 12 [])), (wB 11 (doNot (tm 10)))]) s7_1)
noncomputable abbrev s7_3 : CC := (CC.seq (CC.region [(wB 6 (doMove (O.c (V.b Bool.true))))]) CC.ret)
noncomputable abbrev s7_4 : CC := (CC.cond (tm 14) s7_3 CC.skip)
noncomputable abbrev s7_5 : CC := (CC.seq (CC.region [(wB 12 (doMove (tm 0))), (wB 13 (doLenS (tm 12))), (wB 14 (bin2 fGtr (tm 13) (oN 100)))]) s7_4)
noncomputable abbrev s7_6 : CC := (CC.seq (CC.region [(wB 6 (doMove (O.c (V.b Bool.false))))]) CC.ret)
noncomputable abbrev s7_7 : CC := (CC.cond (tm 33) s7_6 CC.skip)
noncomputable abbrev s7_8 : CC := (CC.seq (CC.region [(wB 21 (doMove (tm 7))), (wB 22 (doCall 22 [(tm 21), (O.c (V.s 1 102))])), (wB 23 (bin2 fNeq (tm 22) (oN 0))), (wB 24 (doMove (tm 23))), (wG 24 false 25 (doMove (tm 7))), (wG 24 false 26 (doCall 22 [(tm 25), (O.c (V.s 1 102))])), (wG 24 false 27 (bin2 fNeq (tm 26) (oN 14))), (wB 28 (doPick (tm 24) (O.c (V.b Bool.true)) (tm 27))), (wB 29 (doMove (tm 28))), (wG 29 false 30 (doMove (tm 7))), (wG 29 false 31 (doCall 36 [(tm 30)])), (wG 29 false 32 (bin2 fNeq (tm 31) (oN 0))), (wB 33 (doPick (tm 29) (O.c (V.b Bool.true)) (tm 32)))]) s7_7)
noncomputable abbrev s7_9 : CC := (CC.seq (CC.region [(wB 6 (doMove (O.c (V.b Bool.false))))]) CC.ret)
noncomputable abbrev s7_10 : CC := (CC.cond (tm 39) s7_9 CC.skip)
noncomputable abbrev s7_11 : CC := (CC.seq (CC.region [(wB 34 (doMove (tm 2))), (wB 35 (doMove (tm 34))), (wG 35 true 36 (doMove (tm 7))), (wG 35 true 37 (doCall 16 [(tm 36), (O.c (V.s 1 102)), (O.c (V.s 5 478694368626))])), (wG 35 true 38 (bin2 fNeq (tm 37) (oN 0))), (wB 39 (doPick (tm 35) (tm 38) (O.c (V.b Bool.false))))]) s7_10)
noncomputable abbrev s7_12 : CC := (CC.seq (CC.region [(wB 54 (doMove (tm 9))), (wB 55 (bin2 fEql (tm 54) (oN 0))), (wB 56 (doMove (tm 55))), (wG 56 true 57 (doMove (tm 8))), (wG 56 true 58 (doMove (tm 0))), (wG 56 true 59 (doSCmp eqS (tm 57) (tm 58))), (wB 60 (doPick (tm 56) (tm 59) (O.c (V.b Bool.false)))), (wB 6 (doMove (tm 60)))]) CC.ret)
noncomputable abbrev s7_13 : CC := (CC.seq (CC.region [(wB 68 (doMove (tm 9))), (wB 69 (bin2 fEql (tm 68) (oN 0))), (wB 70 (doMove (tm 69))), (wG 70 true 71 (doMove (tm 8))), (wG 70 true 72 (doSCmp eqS (tm 71) (O.c (V.s 5 478694368626)))), (wB 73 (doPick (tm 70) (tm 72) (O.c (V.b Bool.false)))), (wB 6 (doMove (tm 73)))]) CC.ret)
noncomputable abbrev s7_14 : CC := (CC.cond (tm 61) s7_13 CC.skip)
noncomputable abbrev s7_15 : CC := (CC.seq (CC.region [(wB 62 (doMove (tm 2))), (wB 63 (doMove (tm 62))), (wG 63 true 64 (doMove (tm 1))), (wG 63 true 65 (doRem (tm 64) (O.c (V.i IntKind.u8 (Int.ofNat 4))))), (wG 63 true 66 (bin2 fGeq (tm 65) (O.c (V.i IntKind.u8 (Int.ofNat 2))))), (wB 67 (doPick (tm 63) (tm 66) (O.c (V.b Bool.false)))), (wB 61 (doMove (tm 67)))]) s7_14)
noncomputable abbrev s7_16 : CC := (CC.cond (tm 50) s7_12 s7_15)
noncomputable abbrev s7_17 : CC := (CC.seq (CC.region [(wB 51 (doMove (tm 1))), (wB 52 (doRem (tm 51) (O.c (V.i IntKind.u8 (Int.ofNat 4))))), (wB 53 (bin2 fEql (tm 52) (O.c (V.i IntKind.u8 (Int.ofNat 0))))), (wB 50 (doMove (tm 53)))]) s7_16)
noncomputable abbrev s7_18 : CC := (CC.block 0 s7_17)
noncomputable abbrev s7_19 : CC := (CC.seq (CC.region [(wB 74 (doMove (tm 9))), (wB 75 (bin2 fEql (tm 74) (oN 14))), (wB 76 (doMove (tm 75))), (wG 76 true 77 (doMove (tm 7))), (wG 76 true 78 (doCall 35 [(tm 77)])), (wG 76 true 79 (doLen (tm 78))), (wG 76 true 80 (bin2 fEql (tm 79) (oN 0))), (wB 81 (doPick (tm 76) (tm 80) (O.c (V.b Bool.false)))), (wB 6 (doMove (tm 81)))]) CC.ret)
noncomputable abbrev s7_20 : CC := (CC.seq s7_18 s7_19)
noncomputable abbrev s7_21 : CC := (CC.seq (CC.region [(wB 46 (doMove (tm 7))), (wB 47 (doCall 31 [(tm 46), (O.c (V.s 1 102))])), (wB 45 (doMove (tm 47))), (wB 48 (doExtract 0 (tm 45))), (wB 49 (doExtract 1 (tm 45))), (wB 8 (doMove (tm 48))), (wB 9 (doMove (tm 49)))]) s7_20)
noncomputable abbrev s7_22 : CC := (CC.seq (CC.region [(wB 40 (doMove (tm 7))), (wB 41 (doMove (tm 1))), (wB 42 (doRem (tm 41) (O.c (V.i IntKind.u8 (Int.ofNat 4))))), (wB 43 (doConv IntKind.i64 (tm 42))), (wB 44 (doCall 28 [(tm 40), (tm 43), (oN 0)]))]) s7_21)
noncomputable abbrev s7_23 : CC := (CC.seq s7_11 s7_22)
noncomputable abbrev s7_24 : CC := (CC.seq s7_8 s7_23)
noncomputable abbrev s7_25 : CC := (CC.seq (CC.region [(wB 19 (doMove (tm 7))), (wB 20 (doCall 24 [(tm 19)]))]) s7_24)
noncomputable abbrev s7_26 : CC := (CC.seq (CC.region [(wB 16 (doMove (tm 7))), (wB 17 (doMove (tm 0))), (wB 18 (doCall 16 [(tm 16), (O.c (V.s 1 102)), (tm 17)]))]) s7_25)
noncomputable abbrev s7_27 : CC := (CC.seq (CC.region [(wB 15 (doCall 14 [(oN 1000000)])), (wB 7 (doMove (tm 15)))]) s7_26)
noncomputable abbrev s7_28 : CC := (CC.seq s7_5 s7_27)
noncomputable abbrev s7_29 : CC := (CC.seq s7_2 s7_28)
noncomputable abbrev b7 : CC := (CC.seq (CC.region [(wB 6 (doMove (O.c (V.b Bool.false))))]) s7_29)
theorem c7 : compFn Try.prog 7 = ⟨82, b7, [(Rs.tmp (slOf 6))]⟩ := by kernel_rfl
end Go.Proofs.Ytjlhfoadabkahaa

set_option maxRecDepth 100000
set_option maxHeartbeats 8000000
set_option linter.all false
namespace Go.Proofs.Ytjlhfoadabkahaa
open Go Go.Ev
section
variable {h : H} {s : B} {D D' : DS} {P : B → Prop} {k b : List UInt8}
theorem put_0 (hn : nameP k = true) (hl : lookR D.L k = none) (h6 : D.L.length < 60) (hr : (b.length : Int) + (usedR D.L : Int) ≤ D.most) : putE D k b = 0 := by
  unfold putE
  rw [if_neg (by rw [hn]; decide), if_neg (by rw [hl]; simp), if_neg (by omega)]
theorem used_one (k b : List UInt8) : usedR [(k, b)] = b.length := by unfold usedR; simp
end
end Go.Proofs.Ytjlhfoadabkahaa

set_option maxRecDepth 100000
set_option maxHeartbeats 8000000
set_option linter.all false
namespace Go.Proofs.Ytjlhfoadabkahaa
open Go Go.Ev
section
variable {h : H} {s : B} {D D' : DS} {P : B → Prop} {k b old : List UInt8} {a m : UInt8}
theorem torn_pos {k m : Nat} : 0 < hlN (m : Int) k ↔ 0 < m ∧ 0 < k := by unfold hlN; omega
/-- what is there behind the crash -/
theorem swaps_c {n : Int} (hn : n = 0 ∨ n = 1 ∨ n = 2 ∨ n = 3) (m : Nat) : ∃ w x e, gt (crashR [([102], old)] [⟨1, [110, 101, 119], b⟩, ⟨3, [110, 101, 119], [102]⟩] n (m : Int)) [102] = some w ∧ (gt (crashR [([102], old)] [⟨1, [110, 101, 119], b⟩, ⟨3, [110, 101, 119], [102]⟩] n (m : Int)) [110, 101, 119]).getD [] = x ∧
    (if gt (crashR [([102], old)] [⟨1, [110, 101, 119], b⟩, ⟨3, [110, 101, 119], [102]⟩] n (m : Int)) [110, 101, 119] = none then (14 : Int) else 0) = e ∧
    ((n = 0 ∧ w = old ∧ (m : Int) ≤ 0 ∧ e = 14) ∨ (n = 0 ∧ w = old ∧ 0 < (m : Int) ∧ (b.length : Int) ≤ 0 ∧ e = 14) ∨ (n = 0 ∧ w = old ∧ 0 < (m : Int) ∧ 0 < (b.length : Int) ∧ e = 0) ∨ (n = 1 ∧ w = old ∧ e = 0) ∨ (2 ≤ n ∧ w = b ∧ e = 14)) := by
  rcases hn with rfl | rfl | rfl | rfl
  · have hc : crashR [([102], old)] [⟨1, [110, 101, 119], b⟩, ⟨3, [110, 101, 119], [102]⟩] 0 (m : Int) = tornR [([102], old)] ⟨1, [110, 101, 119], b⟩ m := crash_lt (n := 0) (show hlN 0 2 < 2 by decide)
    rw [hc]
    by_cases ht : 0 < m ∧ 0 < b.length
    · have : tornR [([102], old)] ⟨1, [110, 101, 119], b⟩ (m : Int) = [([102], old), ([110, 101, 119], b.take (hlN m b.length))] := by
        unfold tornR
        rw [if_pos ⟨show (1 : Int) ≤ 2 by decide, torn_pos.2 ht⟩]
        rfl
      rw [this]
      exact ⟨old, _, 0, rfl, rfl, rfl, .inr (.inr (.inl ⟨rfl, rfl, by omega, by omega, rfl⟩))⟩
    · have : tornR [([102], old)] ⟨1, [110, 101, 119], b⟩ (m : Int) = [([102], old)] := by
        unfold tornR
        rw [if_neg fun e => ht (torn_pos.1 e.2)]
      rw [this]
      by_cases hm : m = 0
      · exact ⟨old, _, 14, rfl, rfl, rfl, .inl ⟨rfl, rfl, by omega, rfl⟩⟩
      · exact ⟨old, _, 14, rfl, rfl, rfl, .inr (.inl ⟨rfl, rfl, by omega, by omega, rfl⟩)⟩
  · have : crashR [([102], old)] [⟨1, [110, 101, 119], b⟩, ⟨3, [110, 101, 119], [102]⟩] 1 (m : Int) = [([102], old), ([110, 101, 119], b)] := by
      rw [crash_lt (A := [⟨1, [110, 101, 119], b⟩, ⟨3, [110, 101, 119], [102]⟩]) (n := 1) (show hlN 1 2 < 2 by decide)]
      unfold tornR
      rw [if_neg fun e => absurd e.1 (show ¬ (3 : Int) ≤ 2 by decide)]; rfl
    rw [this]
    exact ⟨old, _, 0, rfl, rfl, rfl, .inr (.inr (.inr (.inl ⟨rfl, rfl, rfl⟩)))⟩
  · have : crashR [([102], old)] [⟨1, [110, 101, 119], b⟩, ⟨3, [110, 101, 119], [102]⟩] 2 (m : Int) = [([102], b)] := by
      rw [crash_ge (A := [⟨1, [110, 101, 119], b⟩, ⟨3, [110, 101, 119], [102]⟩]) (n := 2) (show ¬ hlN 2 2 < 2 by decide)]; rfl
    rw [this]
    exact ⟨b, _, 14, rfl, rfl, rfl, .inr (.inr (.inr (.inr ⟨by decide, rfl, rfl⟩)))⟩
  · have : crashR [([102], old)] [⟨1, [110, 101, 119], b⟩, ⟨3, [110, 101, 119], [102]⟩] 3 (m : Int) = [([102], b)] := by
      rw [crash_ge (A := [⟨1, [110, 101, 119], b⟩, ⟨3, [110, 101, 119], [102]⟩]) (n := 3) (show ¬ hlN 3 2 < 2 by decide)]; rfl
    rw [this]
    exact ⟨b, _, 14, rfl, rfl, rfl, .inr (.inr (.inr (.inr ⟨by decide, rfl, rfl⟩)))⟩
theorem swaps_n (ho : old.length ≤ 9223372036854775807) (hb : b.length ≤ 9223372036854775807) (hf : B.val h.floor ≤ B.val h.next) : FnN Try.prog 6 [sv old, sv b, .i .u8 (a.toNat : Int), .i .u8 (m.toNat : Int)] h fun y _ => y = .b true := by
  have ha0 := a.toNat_lt
  have hm0 := m.toNat_lt
  have e1 : V.s 1 102 = sv [102] := by kernel_rfl
  have e3 : V.s 3 7234935 = sv [110, 101, 119] := by kernel_rfl
  refine fn_so cs6 (by decide) (by simp) (by simp) fun Q hQ => ?_
  simp only [slotsF]
  repeat' (first
    | refine St.h ?_
    | simp (disch := first | omega | (simp only [lnv]; omega)) only [wlk, mwk, ↓get_put', Nat.reduceEqDiff, Nat.reduceLT, ↓reduceIte, Int.reduceToNat, Nat.reducePow, Nat.min_eq_left, Nat.reduceAdd, Nat.reduceMul, Int.reduceAdd, Int.reduceSub, Int.reduceNeg, Int.reduceMul, Int.reduceEq, Int.reduceLT, Int.reduceLE, Nat.reduceSub, Int.reduceNatCast, Nat.reduceLeDiff, sqs_m, sqs_r, sqs_e]
    | (with_reducible (first | apply cd_split | apply gd_split)) <;> (intro hc; (try simp only [hcn] at hc); (try simp only [hc]); (try simp only [hcl] at hc); try omega))
  refine CL.pure known5 ?_
  repeat' (first
    | refine St.h ?_
    | simp (disch := first | omega | (simp only [lnv]; omega)) only [wlk, mwk, ↓get_put', Nat.reduceEqDiff, Nat.reduceLT, ↓reduceIte, Int.reduceToNat, Nat.reducePow, Nat.min_eq_left, Nat.reduceAdd, Nat.reduceMul, Int.reduceAdd, Int.reduceSub, Int.reduceNeg, Int.reduceMul, Int.reduceEq, Int.reduceLT, Int.reduceLE, Nat.reduceSub, Int.reduceNatCast, Nat.reduceLeDiff, sqs_m, sqs_r, sqs_e]
    | (with_reducible (first | apply cd_split | apply gd_split)) <;> (intro hc; (try simp only [hcn] at hc); (try simp only [hc]); (try simp only [hcl] at hc); try omega))
  · subst hQ; rfl
  · subst hQ; rfl
  have ho1 : old.length ≤ 100 := by omega
  have hb1 : b.length ≤ 100 := by omega
  refine CL.mk (one_new 1000000 hf) ?_
  rintro y h1 ⟨rfl, st, P1, o, _⟩
  have hf1 := st.fl hf
  clear st
  generalize h.next = s at o ⊢
  have o1 := o.eq (D' := ⟨[], [], [], 1000000⟩) (by kernel_rfl)
  clear o
  repeat' (first
    | refine St.h ?_
    | simp (disch := first | omega | (simp only [lnv]; omega)) only [wlk, mwk, ↓get_put', Nat.reduceEqDiff, Nat.reduceLT, ↓reduceIte, Int.reduceToNat, Nat.reducePow, Nat.min_eq_left, Nat.reduceAdd, Nat.reduceMul, Int.reduceAdd, Int.reduceSub, Int.reduceNeg, Int.reduceMul, Int.reduceEq, Int.reduceLT, Int.reduceLE, Nat.reduceSub, Int.reduceNatCast, Nat.reduceLeDiff, sqs_m, sqs_r, sqs_e]
    | (with_reducible (first | apply cd_split | apply gd_split)) <;> (intro hc; (try simp only [hcn] at hc); (try simp only [hc]); (try simp only [hcl] at hc); try omega))
  refine CL.mk (one_put o1 (k := [102]) (b := old) (by simp) (by simp) (by omega) hf1) ?_
  rintro y h2 ⟨rfl, P2, o2, g2⟩
  have p0 : putE (⟨[], [], [], 1000000⟩ : DS) [102] old = 0 := put_0 (by decide) rfl (by simp) (by simp [usedR]; omega)
  rw [p0, if_pos rfl] at o2
  rw [p0]
  have hf2 := g2.1.fl hf1
  have o2 := o2.eq (D' := ⟨[([102], old)], [], [⟨1, [102], old⟩], 1000000⟩) rfl
  clear o1 g2
  repeat' (first
    | refine St.h ?_
    | simp (disch := first | omega | (simp only [lnv]; omega)) only [wlk, mwk, ↓get_put', Nat.reduceEqDiff, Nat.reduceLT, ↓reduceIte, Int.reduceToNat, Nat.reducePow, Nat.min_eq_left, Nat.reduceAdd, Nat.reduceMul, Int.reduceAdd, Int.reduceSub, Int.reduceNeg, Int.reduceMul, Int.reduceEq, Int.reduceLT, Int.reduceLE, Nat.reduceSub, Int.reduceNatCast, Nat.reduceLeDiff, sqs_m, sqs_r, sqs_e]
    | (with_reducible (first | apply cd_split | apply gd_split)) <;> (intro hc; (try simp only [hcn] at hc); (try simp only [hc]); (try simp only [hcl] at hc); try omega))
  refine CL.mk (one_keep o2) ?_
  rintro y h3 ⟨rfl, P3, o3, g3⟩
  have hf3 := g3.1.fl hf2
  have o3 := o3.eq (D' := ⟨[([102], old)], [([102], old)], [], 1000000⟩) rfl
  clear o2 g3
  repeat' (first
    | refine St.h ?_
    | simp (disch := first | omega | (simp only [lnv]; omega)) only [wlk, mwk, ↓get_put', Nat.reduceEqDiff, Nat.reduceLT, ↓reduceIte, Int.reduceToNat, Nat.reducePow, Nat.min_eq_left, Nat.reduceAdd, Nat.reduceMul, Int.reduceAdd, Int.reduceSub, Int.reduceNeg, Int.reduceMul, Int.reduceEq, Int.reduceLT, Int.reduceLE, Nat.reduceSub, Int.reduceNatCast, Nat.reduceLeDiff, sqs_m, sqs_r, sqs_e]
    | (with_reducible (first | apply cd_split | apply gd_split)) <;> (intro hc; (try simp only [hcn] at hc); (try simp only [hc]); (try simp only [hcl] at hc); try omega))
  refine CL.mk (one_put o3 (k := [110, 101, 119]) (b := b) (by simp) (by simp) (by omega) hf3) ?_
  rintro y h4 ⟨rfl, P4, o4, g4⟩
  have p0 : putE (⟨[([102], old)], [([102], old)], [], 1000000⟩ : DS) [110, 101, 119] b = 0 := put_0 (by decide) rfl (by simp) (by rw [used_one]; show (b.length : Int) + (old.length : Int) ≤ 1000000; omega)
  rw [p0, if_pos rfl] at o4
  rw [p0]
  have hf4 := g4.1.fl hf3
  have o4 := o4.eq (D' := ⟨[([102], old), ([110, 101, 119], b)], [([102], old)], [⟨1, [110, 101, 119], b⟩], 1000000⟩) (by kernel_rfl)
  clear o3 g4
  repeat' (first
    | refine St.h ?_
    | simp (disch := first | omega | (simp only [lnv]; omega)) only [wlk, mwk, ↓get_put', Nat.reduceEqDiff, Nat.reduceLT, ↓reduceIte, Int.reduceToNat, Nat.reducePow, Nat.min_eq_left, Nat.reduceAdd, Nat.reduceMul, Int.reduceAdd, Int.reduceSub, Int.reduceNeg, Int.reduceMul, Int.reduceEq, Int.reduceLT, Int.reduceLE, Nat.reduceSub, Int.reduceNatCast, Nat.reduceLeDiff, sqs_m, sqs_r, sqs_e]
    | (with_reducible (first | apply cd_split | apply gd_split)) <;> (intro hc; (try simp only [hcn] at hc); (try simp only [hc]); (try simp only [hcl] at hc); try omega))
  refine CL.mk (one_swap o4 (o := [110, 101, 119]) (k := [102]) (by simp) (by simp) hf4) ?_
  rintro y h5 ⟨hy, P5, o5, g5⟩
  have hy : y = .i .i64 0 := hy.trans (by kernel_rfl)
  subst hy
  have hf5 := g5.1.fl hf4
  have o5 := o5.eq (D' := ⟨[([102], b)], [([102], old)], [⟨1, [110, 101, 119], b⟩, ⟨3, [110, 101, 119], [102]⟩], 1000000⟩) (by kernel_rfl)
  clear o4 g5
  repeat' (first
    | refine St.h ?_
    | simp (disch := first | omega | (simp only [lnv]; omega)) only [wlk, mwk, ↓get_put', Nat.reduceEqDiff, Nat.reduceLT, ↓reduceIte, Int.reduceToNat, Nat.reducePow, Nat.min_eq_left, Nat.reduceAdd, Nat.reduceMul, Int.reduceAdd, Int.reduceSub, Int.reduceNeg, Int.reduceMul, Int.reduceEq, Int.reduceLT, Int.reduceLE, Nat.reduceSub, Int.reduceNatCast, Nat.reduceLeDiff, sqs_m, sqs_r, sqs_e]
    | (with_reducible (first | apply cd_split | apply gd_split)) <;> (intro hc; (try simp only [hcn] at hc); (try simp only [hc]); (try simp only [hcl] at hc); try omega))
  refine CL.pure ((one_loose o5 (by simp)).y (e' := .i .i64 2) (by kernel_rfl)) ?_
  repeat' (first
    | refine St.h ?_
    | simp (disch := first | omega | (simp only [lnv]; omega)) only [wlk, mwk, ↓get_put', Nat.reduceEqDiff, Nat.reduceLT, ↓reduceIte, Int.reduceToNat, Nat.reducePow, Nat.min_eq_left, Nat.reduceAdd, Nat.reduceMul, Int.reduceAdd, Int.reduceSub, Int.reduceNeg, Int.reduceMul, Int.reduceEq, Int.reduceLT, Int.reduceLE, Nat.reduceSub, Int.reduceNatCast, Nat.reduceLeDiff, sqs_m, sqs_r, sqs_e]
    | (with_reducible (first | apply cd_split | apply gd_split)) <;> (intro hc; (try simp only [hcn] at hc); (try simp only [hc]); (try simp only [hcl] at hc); try omega))
  refine OkS.cn (wo_gen fun K hK => ?_)
  dsimp only [c6_0]
  repeat' (first
    | refine St.h ?_
    | simp (disch := first | omega | (simp only [lnv]; omega)) only [wlk, mwk, ↓get_put', Nat.reduceEqDiff, Nat.reduceLT, ↓reduceIte, Int.reduceToNat, Nat.reducePow, Nat.min_eq_left, Nat.reduceAdd, Nat.reduceMul, Int.reduceAdd, Int.reduceSub, Int.reduceNeg, Int.reduceMul, Int.reduceEq, Int.reduceLT, Int.reduceLE, Nat.reduceSub, Int.reduceNatCast, Nat.reduceLeDiff]
    | (with_reducible (first | apply cd_split | apply gd_split)) <;> (intro hc; (try simp only [hcn] at hc); (try simp only [hc]); (try simp only [hcl] at hc); try omega))
  subst hK
  refine ⟨_, _, one_copy o5 (by simp) hf5, by simp (disch := first | omega | (simp only [lnv]; omega)) only [wlk, mwk, ↓get_put', Nat.reduceEqDiff, Nat.reduceLT, ↓reduceIte, Int.reduceToNat, Nat.reducePow, Nat.min_eq_left, Nat.reduceAdd, Nat.reduceMul, Int.reduceAdd, Int.reduceSub, Int.reduceNeg, Int.reduceMul, Int.reduceEq, Int.reduceLT, Int.reduceLE, Nat.reduceSub, Int.reduceNatCast, Nat.reduceLeDiff], ?_⟩
  rintro y h6 ⟨st, t, T6, rfl, ot, hT⟩
  have hf6 := st.fl hf5
  have o6 := o5.grow st
  have hlt : ∀ q, P5 q → ¬ T6 q := fun q h1 h2 => by have := hT q h2; have := o5.lt h1; omega
  clear o5
  repeat' (first
    | refine St.h ?_
    | simp (disch := first | omega | (simp only [lnv]; omega)) only [wlk, mwk, ↓get_put', Nat.reduceEqDiff, Nat.reduceLT, ↓reduceIte, Int.reduceToNat, Nat.reducePow, Nat.min_eq_left, Nat.reduceAdd, Nat.reduceMul, Int.reduceAdd, Int.reduceSub, Int.reduceNeg, Int.reduceMul, Int.reduceEq, Int.reduceLT, Int.reduceLE, Nat.reduceSub, Int.reduceNatCast, Nat.reduceLeDiff, sqs_m, sqs_r, sqs_e]
    | (with_reducible (first | apply cd_split | apply gd_split)) <;> (intro hc; (try simp only [hcn] at hc); (try simp only [hc]); (try simp only [hcl] at hc); try omega))
  refine CL.mk (one_crash o6 (n := (a.toNat : Int) % 4) (m := (m.toNat : Int)) (by simp) hf6) ?_
  rintro y h7 ⟨rfl, P7, o7, g7⟩
  have hf7 := g7.1.fl hf6
  have ot7 := ot.stay g7.1 fun q h1 h2 => hlt q h2 h1
  clear o6 ot hlt g7
  have hn : (a.toNat : Int) % 4 = 0 ∨ (a.toNat : Int) % 4 = 1 ∨ (a.toNat : Int) % 4 = 2 ∨ (a.toNat : Int) % 4 = 3 := by omega
  repeat' (first
    | refine St.h ?_
    | simp (disch := first | omega | (simp only [lnv]; omega)) only [wlk, mwk, ↓get_put', Nat.reduceEqDiff, Nat.reduceLT, ↓reduceIte, Int.reduceToNat, Nat.reducePow, Nat.min_eq_left, Nat.reduceAdd, Nat.reduceMul, Int.reduceAdd, Int.reduceSub, Int.reduceNeg, Int.reduceMul, Int.reduceEq, Int.reduceLT, Int.reduceLE, Nat.reduceSub, Int.reduceNatCast, Nat.reduceLeDiff, sqs_m, sqs_r, sqs_e]
    | (with_reducible (first | apply cd_split | apply gd_split)) <;> (intro hc; (try simp only [hcn] at hc); (try simp only [hc]); (try simp only [hcl] at hc); try omega))
  obtain ⟨w, x, e, q1, q2, q3, q4⟩ := swaps_c (old := old) (b := b) hn m.toNat
  refine CL.pure ((one_get o7 (k := [102])).y (e' := .tu [sv w, .i .i64 0]) (by rw [q1]; rfl)) ?_
  repeat' (first
    | refine St.h ?_
    | simp (disch := first | omega | (simp only [lnv]; omega)) only [wlk, mwk, ↓get_put', Nat.reduceEqDiff, Nat.reduceLT, ↓reduceIte, Int.reduceToNat, Nat.reducePow, Nat.min_eq_left, Nat.reduceAdd, Nat.reduceMul, Int.reduceAdd, Int.reduceSub, Int.reduceNeg, Int.reduceMul, Int.reduceEq, Int.reduceLT, Int.reduceLE, Nat.reduceSub, Int.reduceNatCast, Nat.reduceLeDiff, sqs_m, sqs_r, sqs_e]
    | (with_reducible (first | apply cd_split | apply gd_split)) <;> (intro hc; (try simp only [hcn] at hc); (try simp only [hc]); (try simp only [hcl] at hc); try omega))
  refine CL.pure ((one_get o7 (k := [110, 101, 119])).y (e' := .tu [sv x, .i .i64 e]) (by rw [q2, q3])) ?_
  clear q1 q2 q3 o7
  rcases q4 with ⟨hn1, hw, hm, rfl⟩ | ⟨hn1, hw, hm, hl, rfl⟩ | ⟨hn1, hw, hm, hl, rfl⟩ | ⟨hn1, hw, rfl⟩ | ⟨hn1, hw, rfl⟩
  · repeat' (first
      | refine St.h ?_
      | simp (disch := first | omega | (simp only [lnv]; omega)) only [wlk, mwk, ↓get_put', Nat.reduceEqDiff, Nat.reduceLT, ↓reduceIte, Int.reduceToNat, Nat.reducePow, Nat.min_eq_left, Nat.reduceAdd, Nat.reduceMul, Int.reduceAdd, Int.reduceSub, Int.reduceNeg, Int.reduceMul, Int.reduceEq, Int.reduceLT, Int.reduceLE, Nat.reduceSub, Int.reduceNatCast, Nat.reduceLeDiff, sqs_m, sqs_r, sqs_e, hn1, hw]
      | (with_reducible (first | apply cd_split | apply gd_split)) <;> (intro hc; (try simp only [hcn] at hc); (try simp only [hc]); (try simp only [hcl] at hc); try omega))
    refine CL.pure ((one_get ot7 (k := [102])).y (e' := .tu [sv b, .i .i64 0]) rfl) ?_
    repeat' (first
      | refine St.h ?_
      | simp (disch := first | omega | (simp only [lnv]; omega)) only [wlk, mwk, ↓get_put', Nat.reduceEqDiff, Nat.reduceLT, ↓reduceIte, Int.reduceToNat, Nat.reducePow, Nat.min_eq_left, Nat.reduceAdd, Nat.reduceMul, Int.reduceAdd, Int.reduceSub, Int.reduceNeg, Int.reduceMul, Int.reduceEq, Int.reduceLT, Int.reduceLE, Nat.reduceSub, Int.reduceNatCast, Nat.reduceLeDiff, sqs_m, sqs_r, sqs_e, hn1, hw]
      | (with_reducible (first | apply cd_split | apply gd_split)) <;> (intro hc; (try simp only [hcn] at hc); (try simp only [hc]); (try simp only [hcl] at hc); try omega))
    refine CL.mk (one_names ot7 hf7) ?_
    rintro y h8 ⟨hN, _, _⟩
    have hN : Ss 1 kC h8 y [[102]] := hN
    have l1 : (([[102]] : List (List UInt8)).length : Int) = 1 := rfl
    repeat' (first
      | refine St.h ?_
      | simp (disch := first | omega | (simp only [lnv]; omega)) only [wlk, mwk, ↓get_put', Nat.reduceEqDiff, Nat.reduceLT, ↓reduceIte, Int.reduceToNat, Nat.reducePow, Nat.min_eq_left, Nat.reduceAdd, Nat.reduceMul, Int.reduceAdd, Int.reduceSub, Int.reduceNeg, Int.reduceMul, Int.reduceEq, Int.reduceLT, Int.reduceLE, Nat.reduceSub, Int.reduceNatCast, Nat.reduceLeDiff, hN.ln, l1]
      | (with_reducible (first | apply cd_split | apply gd_split)) <;> (intro hc; (try simp only [hcn] at hc); (try simp only [hc]); (try simp only [hcl] at hc); try omega))
    subst hQ; rfl
  · repeat' (first
      | refine St.h ?_
      | simp (disch := first | omega | (simp only [lnv]; omega)) only [wlk, mwk, ↓get_put', Nat.reduceEqDiff, Nat.reduceLT, ↓reduceIte, Int.reduceToNat, Nat.reducePow, Nat.min_eq_left, Nat.reduceAdd, Nat.reduceMul, Int.reduceAdd, Int.reduceSub, Int.reduceNeg, Int.reduceMul, Int.reduceEq, Int.reduceLT, Int.reduceLE, Nat.reduceSub, Int.reduceNatCast, Nat.reduceLeDiff, sqs_m, sqs_r, sqs_e, hn1, hw]
      | (with_reducible (first | apply cd_split | apply gd_split)) <;> (intro hc; (try simp only [hcn] at hc); (try simp only [hc]); (try simp only [hcl] at hc); try omega))
    refine CL.pure ((one_get ot7 (k := [102])).y (e' := .tu [sv b, .i .i64 0]) rfl) ?_
    repeat' (first
      | refine St.h ?_
      | simp (disch := first | omega | (simp only [lnv]; omega)) only [wlk, mwk, ↓get_put', Nat.reduceEqDiff, Nat.reduceLT, ↓reduceIte, Int.reduceToNat, Nat.reducePow, Nat.min_eq_left, Nat.reduceAdd, Nat.reduceMul, Int.reduceAdd, Int.reduceSub, Int.reduceNeg, Int.reduceMul, Int.reduceEq, Int.reduceLT, Int.reduceLE, Nat.reduceSub, Int.reduceNatCast, Nat.reduceLeDiff, sqs_m, sqs_r, sqs_e, hn1, hw]
      | (with_reducible (first | apply cd_split | apply gd_split)) <;> (intro hc; (try simp only [hcn] at hc); (try simp only [hc]); (try simp only [hcl] at hc); try omega))
    refine CL.mk (one_names ot7 hf7) ?_
    rintro y h8 ⟨hN, _, _⟩
    have hN : Ss 1 kC h8 y [[102]] := hN
    have l1 : (([[102]] : List (List UInt8)).length : Int) = 1 := rfl
    repeat' (first
      | refine St.h ?_
      | simp (disch := first | omega | (simp only [lnv]; omega)) only [wlk, mwk, ↓get_put', Nat.reduceEqDiff, Nat.reduceLT, ↓reduceIte, Int.reduceToNat, Nat.reducePow, Nat.min_eq_left, Nat.reduceAdd, Nat.reduceMul, Int.reduceAdd, Int.reduceSub, Int.reduceNeg, Int.reduceMul, Int.reduceEq, Int.reduceLT, Int.reduceLE, Nat.reduceSub, Int.reduceNatCast, Nat.reduceLeDiff, hN.ln, l1]
      | (with_reducible (first | apply cd_split | apply gd_split)) <;> (intro hc; (try simp only [hcn] at hc); (try simp only [hc]); (try simp only [hcl] at hc); try omega))
    subst hQ; rfl
  · repeat' (first
      | refine St.h ?_
      | simp (disch := first | omega | (simp only [lnv]; omega)) only [wlk, mwk, ↓get_put', Nat.reduceEqDiff, Nat.reduceLT, ↓reduceIte, Int.reduceToNat, Nat.reducePow, Nat.min_eq_left, Nat.reduceAdd, Nat.reduceMul, Int.reduceAdd, Int.reduceSub, Int.reduceNeg, Int.reduceMul, Int.reduceEq, Int.reduceLT, Int.reduceLE, Nat.reduceSub, Int.reduceNatCast, Nat.reduceLeDiff, sqs_m, sqs_r, sqs_e, hn1, hw]
      | (with_reducible (first | apply cd_split | apply gd_split)) <;> (intro hc; (try simp only [hcn] at hc); (try simp only [hc]); (try simp only [hcl] at hc); try omega))
    refine CL.pure ((one_get ot7 (k := [102])).y (e' := .tu [sv b, .i .i64 0]) rfl) ?_
    repeat' (first
      | refine St.h ?_
      | simp (disch := first | omega | (simp only [lnv]; omega)) only [wlk, mwk, ↓get_put', Nat.reduceEqDiff, Nat.reduceLT, ↓reduceIte, Int.reduceToNat, Nat.reducePow, Nat.min_eq_left, Nat.reduceAdd, Nat.reduceMul, Int.reduceAdd, Int.reduceSub, Int.reduceNeg, Int.reduceMul, Int.reduceEq, Int.reduceLT, Int.reduceLE, Nat.reduceSub, Int.reduceNatCast, Nat.reduceLeDiff, sqs_m, sqs_r, sqs_e, hn1, hw]
      | (with_reducible (first | apply cd_split | apply gd_split)) <;> (intro hc; (try simp only [hcn] at hc); (try simp only [hc]); (try simp only [hcl] at hc); try omega))
    refine CL.mk (one_names ot7 hf7) ?_
    rintro y h8 ⟨hN, _, _⟩
    have hN : Ss 1 kC h8 y [[102]] := hN
    have l1 : (([[102]] : List (List UInt8)).length : Int) = 1 := rfl
    repeat' (first
      | refine St.h ?_
      | simp (disch := first | omega | (simp only [lnv]; omega)) only [wlk, mwk, ↓get_put', Nat.reduceEqDiff, Nat.reduceLT, ↓reduceIte, Int.reduceToNat, Nat.reducePow, Nat.min_eq_left, Nat.reduceAdd, Nat.reduceMul, Int.reduceAdd, Int.reduceSub, Int.reduceNeg, Int.reduceMul, Int.reduceEq, Int.reduceLT, Int.reduceLE, Nat.reduceSub, Int.reduceNatCast, Nat.reduceLeDiff, hN.ln, l1]
      | (with_reducible (first | apply cd_split | apply gd_split)) <;> (intro hc; (try simp only [hcn] at hc); (try simp only [hc]); (try simp only [hcl] at hc); try omega))
    subst hQ; rfl
  · repeat' (first
      | refine St.h ?_
      | simp (disch := first | omega | (simp only [lnv]; omega)) only [wlk, mwk, ↓get_put', Nat.reduceEqDiff, Nat.reduceLT, ↓reduceIte, Int.reduceToNat, Nat.reducePow, Nat.min_eq_left, Nat.reduceAdd, Nat.reduceMul, Int.reduceAdd, Int.reduceSub, Int.reduceNeg, Int.reduceMul, Int.reduceEq, Int.reduceLT, Int.reduceLE, Nat.reduceSub, Int.reduceNatCast, Nat.reduceLeDiff, sqs_m, sqs_r, sqs_e, hn1, hw]
      | (with_reducible (first | apply cd_split | apply gd_split)) <;> (intro hc; (try simp only [hcn] at hc); (try simp only [hc]); (try simp only [hcl] at hc); try omega))
    refine CL.pure ((one_get ot7 (k := [102])).y (e' := .tu [sv b, .i .i64 0]) rfl) ?_
    repeat' (first
      | refine St.h ?_
      | simp (disch := first | omega | (simp only [lnv]; omega)) only [wlk, mwk, ↓get_put', Nat.reduceEqDiff, Nat.reduceLT, ↓reduceIte, Int.reduceToNat, Nat.reducePow, Nat.min_eq_left, Nat.reduceAdd, Nat.reduceMul, Int.reduceAdd, Int.reduceSub, Int.reduceNeg, Int.reduceMul, Int.reduceEq, Int.reduceLT, Int.reduceLE, Nat.reduceSub, Int.reduceNatCast, Nat.reduceLeDiff, sqs_m, sqs_r, sqs_e, hn1, hw]
      | (with_reducible (first | apply cd_split | apply gd_split)) <;> (intro hc; (try simp only [hcn] at hc); (try simp only [hc]); (try simp only [hcl] at hc); try omega))
    refine CL.mk (one_names ot7 hf7) ?_
    rintro y h8 ⟨hN, _, _⟩
    have hN : Ss 1 kC h8 y [[102]] := hN
    have l1 : (([[102]] : List (List UInt8)).length : Int) = 1 := rfl
    repeat' (first
      | refine St.h ?_
      | simp (disch := first | omega | (simp only [lnv]; omega)) only [wlk, mwk, ↓get_put', Nat.reduceEqDiff, Nat.reduceLT, ↓reduceIte, Int.reduceToNat, Nat.reducePow, Nat.min_eq_left, Nat.reduceAdd, Nat.reduceMul, Int.reduceAdd, Int.reduceSub, Int.reduceNeg, Int.reduceMul, Int.reduceEq, Int.reduceLT, Int.reduceLE, Nat.reduceSub, Int.reduceNatCast, Nat.reduceLeDiff, hN.ln, l1]
      | (with_reducible (first | apply cd_split | apply gd_split)) <;> (intro hc; (try simp only [hcn] at hc); (try simp only [hc]); (try simp only [hcl] at hc); try omega))
    subst hQ; rfl
  · have hx : ¬ (a.toNat : Int) % 4 = 1 := by omega
    have hy : ¬ (a.toNat : Int) % 4 = 0 := by omega
    repeat' (first
      | refine St.h ?_
      | simp (disch := first | omega | (simp only [lnv]; omega)) only [wlk, mwk, ↓get_put', Nat.reduceEqDiff, Nat.reduceLT, ↓reduceIte, Int.reduceToNat, Nat.reducePow, Nat.min_eq_left, Nat.reduceAdd, Nat.reduceMul, Int.reduceAdd, Int.reduceSub, Int.reduceNeg, Int.reduceMul, Int.reduceEq, Int.reduceLT, Int.reduceLE, Nat.reduceSub, Int.reduceNatCast, Nat.reduceLeDiff, sqs_m, sqs_r, sqs_e, hn1, hw, hx, hy]
      | (with_reducible (first | apply cd_split | apply gd_split)) <;> (intro hc; (try simp only [hcn] at hc); (try simp only [hc]); (try simp only [hcl] at hc); try omega))
    refine CL.pure ((one_get ot7 (k := [102])).y (e' := .tu [sv b, .i .i64 0]) rfl) ?_
    repeat' (first
      | refine St.h ?_
      | simp (disch := first | omega | (simp only [lnv]; omega)) only [wlk, mwk, ↓get_put', Nat.reduceEqDiff, Nat.reduceLT, ↓reduceIte, Int.reduceToNat, Nat.reducePow, Nat.min_eq_left, Nat.reduceAdd, Nat.reduceMul, Int.reduceAdd, Int.reduceSub, Int.reduceNeg, Int.reduceMul, Int.reduceEq, Int.reduceLT, Int.reduceLE, Nat.reduceSub, Int.reduceNatCast, Nat.reduceLeDiff, sqs_m, sqs_r, sqs_e, hn1, hw]
      | (with_reducible (first | apply cd_split | apply gd_split)) <;> (intro hc; (try simp only [hcn] at hc); (try simp only [hc]); (try simp only [hcl] at hc); try omega))
    refine CL.mk (one_names ot7 hf7) ?_
    rintro y h8 ⟨hN, _, _⟩
    have hN : Ss 1 kC h8 y [[102]] := hN
    have l1 : (([[102]] : List (List UInt8)).length : Int) = 1 := rfl
    repeat' (first
      | refine St.h ?_
      | simp (disch := first | omega | (simp only [lnv]; omega)) only [wlk, mwk, ↓get_put', Nat.reduceEqDiff, Nat.reduceLT, ↓reduceIte, Int.reduceToNat, Nat.reducePow, Nat.min_eq_left, Nat.reduceAdd, Nat.reduceMul, Int.reduceAdd, Int.reduceSub, Int.reduceNeg, Int.reduceMul, Int.reduceEq, Int.reduceLT, Int.reduceLE, Nat.reduceSub, Int.reduceNatCast, Nat.reduceLeDiff, hN.ln, l1]
      | (with_reducible (first | apply cd_split | apply gd_split)) <;> (intro hc; (try simp only [hcn] at hc); (try simp only [hc]); (try simp only [hcl] at hc); try omega))
    subst hQ; rfl
theorem shelfSwaps_ok (ho : old.length ≤ 9223372036854775807) (hb : b.length ≤ 9223372036854775807) (_hf : B.val h.floor ≤ B.val h.next) : FnOk Try.prog 6 [sv old, sv b, .i .u8 (a.toNat : Int), .i .u8 (m.toNat : Int)] h fun y h' => y = .b true :=
  (FnN.pure (swaps_n ho hb (by rw [reFloor_floor, reFloor_next]; exact Nat.le_refl _)) fun ρ ρ' x hx => hx).mono fun y h' e => e.1
end
end Go.Proofs.Ytjlhfoadabkahaa

namespace Go.Proofs.Ytjlhfoadabkahaa.shelfSwaps
open Go Go.Ev Go.ChangeShapes Go.WideShapes Go.ChangeAt Go.RowKit Go.ChangeMaps
set_option linter.all false
theorem own : ownKnob Try.prog.godebug = none := by kernel_rfl
theorem laid : laidOutB Try.prog = true := by kernel_rfl
theorem heap_pos {W : World} (h : W.ShapedOpen Try.prog) : 0 < W.heap.size := by
  obtain ⟨o, _, h1, _⟩ := h.2 0 (of_decide_eq_true (by kernel_rfl)) (of_decide_eq_true (by kernel_rfl))
  exact (Array.getElem?_eq_some_iff.1 h1).1
set_option maxRecDepth 100000 in
theorem run {H : Type} {enc : TypeId × Value → H} (W : World) (base : Nat) (args : Array Value) (ds : List (DataW H)) (p : List MemPlace) (hval : ∀ (j : Nat) t v, Try.f6.params[j]? = some t → args[j]? = some v → Value.okWide Try.prog W .any base t v) (hopen : W.ShapedOpen Try.prog)
    (hA : DataW.TrodAll enc Try.prog W 0 (fun _ => true) true Try.f6.params.toList args.toList ds p) : Calls Try.prog 6 args W fun e w' => e = .returned (.bool true) ∧ Below W.heap.size W w' := by
  rw [Try.params6] at hA hval
  obtain ⟨v0, vs0, d0, ds0, p0, q0, hargs, rfl, rfl, h0, r0⟩ := trodAll_cons hA
  obtain ⟨v1, vs1, d1, ds1, p1, q1, rfl, rfl, rfl, h1, r1⟩ := trodAll_cons r0
  obtain ⟨v2, vs2, d2, ds2, p2, q2, rfl, rfl, rfl, h2, r2⟩ := trodAll_cons r1
  obtain ⟨v3, vs3, d3, ds3, p3, q3, rfl, rfl, rfl, h3, r3⟩ := trodAll_cons r2
  obtain ⟨rfl, rfl, rfl⟩ := trodAll_nil r3
  obtain rfl : args = #[v0, v1, v2, v3] := by cases args; simp_all
  obtain ⟨h, s1, s2⟩ := Go.Ev.start W
  have s : Go.Ev.Start W h := ⟨s1, s2⟩
  obtain ⟨a0, rfl, rfl, rfl, w0⟩ := open_string Try.underlying9 (hval 0 9 v0 rfl rfl) h0
  obtain ⟨a1, rfl, rfl, rfl, w1⟩ := open_string Try.underlying9 (hval 1 9 v1 rfl rfl) h1
  obtain ⟨a2, rfl, rfl, rfl, w2⟩ := open_int Try.underlying5 (hval 2 5 v2 rfl rfl) h2
  obtain ⟨n2, rfl⟩ := u8_byte w2
  obtain ⟨a3, rfl, rfl, rfl, w3⟩ := open_int Try.underlying5 (hval 3 5 v3 rfl rfl) h3
  obtain ⟨n3, rfl⟩ := u8_byte w3
  exact calls_true s (vs := [sv a0.data.toList, sv a1.data.toList, .i .u8 (n2.toNat : Int), .i .u8 (n3.toNat : Int)]) ⟨(by rw [← absV_str W]; exact absV_rel W _), (by rw [← absV_str W]; exact absV_rel W _), rfl, rfl, trivial⟩ (shelfSwaps_ok (str_len w0) (str_len w1) s1.flo)
set_option maxRecDepth 100000 in
theorem lifted (os : Os) (started : os.Started) (H : Type) (enc : TypeId × Value → H) :
    ReturnsInHanded {} Try.checked os 6 .any (Rows.shelfSwapsSpec.pre6 enc Try.prog Try.f6 Rows.shelfSwapsRow.domain false) (Rows.shelfSwapsSpec.post enc Try.prog Try.f6 false true false false) :=
  law_lifted (C := Try.checked) own started (by kernel_rfl) Try.func6
    (ChangeSpec.witness6 (enc := enc) (C := Try.checked) false ⟨#[], #[.string ⟨#[]⟩, .string ⟨#[]⟩, .int .u8 0, .int .u8 0], []⟩ 8 (by kernel_rfl) (by kernel_rfl) (by kernel_rfl) (by kernel_rfl))
    rfl (fun ds hd => by rw [Try.params6] at hd; match ds, hd with | [d1, d2, d3, d4], _ => rfl) laid (by kernel_rfl) (by kernel_rfl) Try.underlying4 (fun W base args ds p hv ho hA => run W base args ds p hv ho hA)
theorem over : Rows.shelfSwapsRow.holds Try.pinned (OpenSpec.ofChange Rows.shelfSwapsSpec) :=
  OpenClaim.holds_of_wide 6 Try.f6 rfl rfl rfl rfl rfl rfl rfl ⟨rfl, rfl, rfl, rfl, rfl⟩ rfl rfl rfl rfl rfl (by kernel_rfl) Try.func6 (by kernel_rfl)
    (of_decide_eq_true (by kernel_rfl)) (by unfold Func.isWrapper; first | (rw [if_pos (by decide +kernel)]; kernel_rfl) | (rw [if_neg (by decide +kernel)]; exact ⟨rfl, rfl⟩))
    (fun os started H enc _ => lifted os started H enc)
/-- THE STATEMENT -/
theorem proved : Rows.ShelfSwapsSaid :=
  over
end Go.Proofs.Ytjlhfoadabkahaa.shelfSwaps
