/- Texts of ours, without what this claim does not use: NShOn JrLw NShKn NShDw NShPs NShPl ArgR NShPa ShelfPlays. No condition. -/
import Derived.Test.YtjlhfoadabkahaaPkShelfPlays5
import Derived.Test.YtjlhfoadabkahaaProg
import Derived.KernelRfl
import Derived.Test.YtjlhfoadabkahaaRows
import Derived.WalkKit
import Derived.ProofKit
import Derived.OpenShut
import Derived.ChangeMaps5
set_option maxRecDepth 100000
set_option maxHeartbeats 8000000
set_option linter.all false
namespace Go.Proofs.Ytjlhfoadabkahaa
open Go Go.Ev
def NmL (L : List Fi) : Prop := ∀ x ∈ L, x.1.length ≤ 1048576
def NmD (D : DS) : Prop := NmL D.K ∧ ∀ a ∈ D.A, a.name.length ≤ 1048576 ∧ a.b.length ≤ 1048576
theorem nm_with {L : List Fi} {f : Fi} (h : NmL L) (hf : f.1.length ≤ 1048576) : NmL (withR L f) := fun x hx => by
 rcases List.mem_cons.1 ((ins_perm (L := wioR L f.1) (f := f)).mem_iff.1 hx) with h1 | h1
 · rw [h1]; exact hf
 · exact h x (List.mem_filter.1 h1).1
theorem nm_done {L : List Fi} {a : DA} (h : NmL L) (h1 : a.name.length ≤ 1048576) (h2 : a.b.length ≤ 1048576) : NmL (doneR L a) := by
 unfold doneR
 repeat' split
 all_goals first | exact nm_with h h1 | exact h | exact nm_with (fun x hx => h x (List.mem_filter.1 hx).1) h2 | exact fun x hx => h x (List.mem_filter.1 hx).1
theorem nm_run {K : List Fi} {A : List DA} (h : NmL K) (hA : ∀ a ∈ A, a.name.length ≤ 1048576 ∧ a.b.length ≤ 1048576) : NmL (runR K A) := by
 unfold runR
 induction A generalizing K with
 | nil => exact h
 | cons a r ih => exact ih (nm_done h (hA a (List.mem_cons_self ..)).1 (hA a (List.mem_cons_self ..)).2) fun b hb => hA b (List.mem_cons_of_mem _ hb)
theorem mem_D {A : List DA} {i : Nat} (h : i < A.length) : A.getD i default ∈ A := by simp [List.getD, h]
theorem nm_crash {D : DS} {n m : Int} (h : NmD D) : NmL (crashR D.K D.A n m) := by
 obtain ⟨h1, h2⟩ := h
 have ht : ∀ i, NmL (runR D.K (D.A.take i)) := fun i => nm_run h1 fun a ha => h2 a (List.mem_of_mem_take ha)
 by_cases e : hlN n D.A.length < D.A.length
 · rw [crash_lt e]
   unfold tornR
   have h3 := h2 _ (mem_D e)
   split
   · exact nm_done (ht _) h3.1 (by rw [List.length_take]; omega)
   · exact ht _
 · rw [crash_ge e]; exact nm_run h1 h2
theorem NmD.L {D : DS} {C : List Fi} {T : List AC} {rm : Int} (h : NmD D) (R : Rel C T rm D) : NmL D.L := by rw [R.run]; exact nm_run h.1 h.2
theorem NmD.act {D : DS} {a : DA} (h : NmD D) (h1 : a.name.length ≤ 1048576) (h2 : a.b.length ≤ 1048576) : NmD (doD D a) := ⟨h.1, fun b hb => by
 rcases List.mem_append.1 hb with h3 | h3
 · exact h.2 b h3
 · rw [List.mem_singleton.1 h3]; exact ⟨h1, h2⟩⟩
theorem NmD.gt {D : DS} {C : List Fi} {T : List AC} {rm : Int} (h : NmD D) (R : Rel C T rm D) {k g : List UInt8} (e : Go.Ev.gt D.L k = some g) : k.length ≤ 1048576 := h.L R (k, g) ((gt_perm e).mem_iff.2 (List.mem_cons_self ..))
def One (h : H) (s : B) (D : DS) (P : B → Prop) : Prop :=
 ∃ mp lo X U rm, ShM h s mp lo X U U rm ∧ Rel (bX X) (U.map absA) rm D ∧ Srt D.L ∧ Srt D.K ∧ NmD D ∧ (∀ u ∈ U.map absA, ∀ g, u.gone = some g → g.length ≤ 1000000) ∧ ∀ q, fpS s mp lo X U q ↔ P q
def Grow (h h' : H) (P P' : B → Prop) : Prop := Stay P h h' ∧ ∀ q, P' q → P q ∨ B.val h.next ≤ B.val q
section
variable {h h' : H} {s : B} {mp lo : V} {X X' : Xs} {U U' : List AB} {rm rm' n m : Int} {D D' : DS} {P : B → Prop} {C' : List Fi} {T' : List AC} {k j b : List UInt8}
theorem Grow.refl (h : H) (P : B → Prop) : Grow h h P P := ⟨Stay.refl _ _, fun q hq => .inl hq⟩
theorem Grow.keep {Q P' : B → Prop} (g : Grow h h' P P') (hs : ∀ q, P q → ¬ Q q) (hQ : ∀ q, Q q → B.val q < B.val h.next) : ∀ q, P' q → ¬ Q q := fun q hq e => by
 rcases g.2 q hq with h1 | h1
 · exact hs q h1 e
 · have := hQ q e; omega
theorem One.stay {p : B → Prop} (o : One h s D P) (t : Stay p h h') (hp : ∀ q, P q → ¬ p q) : One h' s D P := by
 obtain ⟨mp, lo, X, U, rm, S, R, s1, s2, nm, gl, fp⟩ := o
 exact ⟨mp, lo, X, U, rm, S.stay t fun q hq => hp q ((fp q).1 hq), R, s1, s2, nm, gl, fp⟩
theorem One.grow (o : One h s D P) (t : Stay nowhere h h') : One h' s D P := o.stay t fun _ _ e => e
theorem One.lt (o : One h s D P) {q : B} (hq : P q) : B.val q < B.val h.next := by
 obtain ⟨mp, lo, X, U, rm, S, R, s1, s2, nm, gl, fp⟩ := o
 exact S.lt ((fp q).2 hq)
theorem One.lens (o : One h s D P) : Okd D.L ∧ 0 ≤ D.most ∧ D.most ≤ 1000000 ∧ (nam D.L).Nodup := by
 obtain ⟨mp, lo, X, U, rm, S, R, _⟩ := o
 exact ⟨R.okL, R.r0, R.r1, R.nodL⟩
theorem one_of (S : ShM h s mp lo X U U rm) (fp : ∀ q, fpS s mp lo X U q ↔ P q) (a : AftS h h' s mp lo X U C' T' rm') (R' : Rel C' T' rm' D') (h1 : Srt D'.L) (h2 : Srt D'.K) (hn : NmD D') (gl : ∀ u ∈ T', ∀ g, u.gone = some g → g.length ≤ 1000000) : ∃ P', One h' s D' P' ∧ Grow h h' P P' := by
 obtain ⟨mp', lo', X', U', rfl, rfl, S', st, fp'⟩ := a
 refine ⟨_, ⟨mp', lo', X', U', rm', S', R', h1, h2, hn, gl, fun q => Iff.rfl⟩, st.mono fun q _ e => (fp q).1 e, fun q hq => (fp' q hq).imp_left fun e => (fp q).1 e⟩
theorem gl_app {T : List AC} {u : AC} (h : ∀ u ∈ T, ∀ g, u.gone = some g → g.length ≤ 1000000) (hu : ∀ g, u.gone = some g → g.length ≤ 1000000) : ∀ v ∈ T ++ [u], ∀ g, v.gone = some g → g.length ≤ 1000000 := fun v hv => by
 rcases List.mem_append.1 hv with h1 | h1
 · exact h v h1
 · rw [List.mem_singleton.1 h1]; exact hu
theorem gt_okd {L : List Fi} (o : Okd L) {g : List UInt8} (hg : gt L k = some g) : g.length ≤ 1000000 := by
 have := (dl_used hg).1
 have := o.2
 omega
theorem one_new (n : Int) (hf : B.val h.floor ≤ B.val h.next) : FnOk Try.prog 14 [.i .i64 n] h fun y h' => y = .p h.next 0 0 3 ∧ Stay nowhere h h' ∧ ∃ P, One h' h.next ⟨[], [], [], max 0 (min n 1000000)⟩ P ∧ ∀ q, P q → B.val h.next ≤ B.val q := by
 refine (snew_ok n hf).mono ?_
 rintro y h' ⟨rfl, S, st, fp⟩
 exact ⟨rfl, st, _, ⟨.m0, .l0, [], [], _, S, Rel.new (n := n), List.Pairwise.nil, List.Pairwise.nil, ⟨(fun x hx => by cases hx), (fun x hx => by cases hx)⟩, (fun u hu => by cases hu), fun q => Iff.rfl⟩, fp⟩
theorem srtD {a : DA} (h : Srt D.L) : Srt (doD D a).L := srt_done (a := a) h
theorem one_put (o : One h s D P) (hA : D.A.length ≤ 10000) (hk : k.length ≤ 1048576) (hb : b.length ≤ 1048576) (hf : B.val h.floor ≤ B.val h.next) :
   FnOk Try.prog 16 [.p s 0 0 3, sv k, sv b] h fun y h1 => y = .i .i64 (putE D k b) ∧ ∃ P', One h1 s (if putE D k b = 0 then doD D ⟨1, k, b⟩ else D) P' ∧ Grow h h1 P P' := by
 have o' := o
 obtain ⟨mp, lo, X, U, rm, S, R, s1, s2, nm, gl, fp⟩ := o
 have hac : U.length = D.A.length := by have := R.acts; rwa [List.length_map] at this
 have h2 := R.okL.2
 have h3 := R.r0
 have h4 := R.r1
 refine (sput_ok S (by omega) (by rw [R.used]; omega) (by rw [R.room]; exact h3) (by rw [R.room]; exact h4) (by omega) (by omega) hf).mono ?_
 rw [R.pe]
 rintro y h1 ⟨rfl, ha⟩
 refine ⟨rfl, ?_⟩
 by_cases e : putE D k b = 0
 · rw [if_pos e] at ha ⊢
   exact one_of S fp ha (R.put e hb) (srtD s1) s2 (nm.act hk hb) (gl_app gl fun g e => by cases e)
 · rw [if_neg e] at ha ⊢
   rw [ha]; exact ⟨P, o', Grow.refl _ _⟩
theorem one_add (o : One h s D P) (hA : D.A.length ≤ 10000) (hb : b.length ≤ 1048576) (hf : B.val h.floor ≤ B.val h.next) :
   FnOk Try.prog 18 [.p s 0 0 3, sv k, sv b] h fun y h1 => y = .i .i64 (addE D k b) ∧ ∃ P', One h1 s (if addE D k b = 0 then doD D ⟨2, k, b⟩ else D) P' ∧ Grow h h1 P P' := by
 have o' := o
 obtain ⟨mp, lo, X, U, rm, S, R, s1, s2, nm, gl, fp⟩ := o
 have hac : U.length = D.A.length := by have := R.acts; rwa [List.length_map] at this
 have h2 := R.okL
 have h3 := R.r0
 have h4 := R.r1
 have hX : X.length = D.L.length := by have := R.len; rwa [len_bX] at this
 refine (sadd_ok S (by have := h2.1; omega) (by omega) (by rw [R.used]; exact h2.2) (by rw [R.room]; exact h3) (by rw [R.room]; exact h4) (by omega) hf).mono ?_
 rw [R.ae]
 rintro y h1 ⟨rfl, ha⟩
 refine ⟨rfl, ?_⟩
 by_cases e : addE D k b = 0
 · rw [if_pos e] at ha ⊢
   have hg : ∃ v, gt D.L k = some v := by
     cases hg : gt D.L k with
     | some g => exact ⟨g, rfl⟩
     | none =>
       unfold addE at e
       rw [lookR_gt, hg] at e
       cases e
   obtain ⟨v, hg⟩ := hg
   exact one_of S fp ha (R.add e hb) (srtD s1) s2 (nm.act (nm.gt R hg) hb) (gl_app gl fun g e => by cases e)
 · rw [if_neg e] at ha ⊢
   rw [ha]; exact ⟨P, o', Grow.refl _ _⟩
theorem one_swap {o : List UInt8} (t : One h s D P) (hA : D.A.length ≤ 10000) (hk : k.length ≤ 1048576) (hf : B.val h.floor ≤ B.val h.next) :
   FnOk Try.prog 20 [.p s 0 0 3, sv o, sv k] h fun y h1 => y = .i .i64 (swapE D o k) ∧ ∃ P', One h1 s (if swapE D o k = 0 then doD D ⟨3, o, k⟩ else D) P' ∧ Grow h h1 P P' := by
 have t' := t
 obtain ⟨mp, lo, X, U, rm, S, R, s1, s2, nm, gl, fp⟩ := t
 have hac : U.length = D.A.length := by have := R.acts; rwa [List.length_map] at this
 have hX : X.length = D.L.length := by have := R.len; rwa [len_bX] at this
 have h2 := R.okL
 refine (sswap_ok S (by have := h2.1; omega) (by omega) (by omega) hf).mono ?_
 rw [R.se]
 rintro y h1 ⟨rfl, ha⟩
 refine ⟨rfl, ?_⟩
 by_cases e : swapE D o k = 0
 · rw [if_pos e] at ha ⊢
   have hg : ∃ v, gt D.L o = some v := by
     cases hg : gt D.L o with
     | some g => exact ⟨g, rfl⟩
     | none =>
       unfold swapE at e
       rw [lookR_gt, hg] at e
       by_cases h1 : nameP k = false
       · rw [if_pos h1] at e; cases e
       · rw [if_neg h1] at e; cases e
   obtain ⟨v, hg⟩ := hg
   refine one_of S fp ha (R.swap e hk) (srtD s1) s2 (nm.act (nm.gt R hg) hk) (gl_app gl fun g e => ?_)
   have e : (if o = k then none else gt (bX X) k) = some g := e
   by_cases e2 : o = k
   · rw [if_pos e2] at e; cases e
   · rw [if_neg e2, R.sam] at e
     exact gt_okd h2 e
 · rw [if_neg e] at ha ⊢
   rw [ha]; exact ⟨P, t', Grow.refl _ _⟩
theorem one_drop (t : One h s D P) (hA : D.A.length ≤ 10000) (hf : B.val h.floor ≤ B.val h.next) :
   FnOk Try.prog 22 [.p s 0 0 3, sv k] h fun y h1 => y = .i .i64 (dropE D k) ∧ ∃ P', One h1 s (if dropE D k = 0 then doD D ⟨4, k, []⟩ else D) P' ∧ Grow h h1 P P' := by
 have t' := t
 obtain ⟨mp, lo, X, U, rm, S, R, s1, s2, nm, gl, fp⟩ := t
 have hac : U.length = D.A.length := by have := R.acts; rwa [List.length_map] at this
 have hX : X.length = D.L.length := by have := R.len; rwa [len_bX] at this
 have h2 := R.okL
 refine (sdrop_ok S (by have := h2.1; omega) (by omega) hf).mono ?_
 cases hg : gt (bX X) k with
 | none =>
   rintro y h1 ⟨rfl, rfl⟩
   have e : dropE D k = 14 := by unfold dropE; rw [lookR_gt, ← R.sam, hg]; rfl
   rw [e]
   exact ⟨rfl, P, t', Grow.refl _ _⟩
 | some g =>
   rintro y h1 ⟨rfl, ha⟩
   have e : dropE D k = 0 := by unfold dropE; rw [lookR_gt, ← R.sam, hg]; rfl
   rw [e, if_pos rfl]
   exact ⟨rfl, one_of S fp ha (R.drop hg) (srtD s1) s2 (nm.act (nm.gt R (by rw [← R.sam]; exact hg)) (Nat.zero_le _)) (gl_app gl fun g' e => by cases e; rw [R.sam] at hg; exact gt_okd h2 hg)⟩
theorem one_keep (t : One h s D P) : FnOk Try.prog 24 [.p s 0 0 3] h fun y h1 => y = .tu [] ∧ ∃ P', One h1 s { D with K := D.L, A := [] } P' ∧ Grow h h1 P P' := by
 obtain ⟨mp, lo, X, U, rm, S, R, s1, s2, nm, gl, fp⟩ := t
 refine (skeep_ok S).mono ?_
 rintro y h1 ⟨rfl, ha⟩
 exact ⟨rfl, one_of S fp ha R.keep s1 s1 ⟨nm.L R, fun a ha => by cases ha⟩ fun u hu => by cases hu⟩
theorem one_room (t : One h s D P) : FnOk Try.prog 26 [.p s 0 0 3, .i .i64 n] h fun y h1 => y = .tu [] ∧ ∃ P', One h1 s { D with most := max 0 (min n 1000000) } P' ∧ Grow h h1 P P' := by
 obtain ⟨mp, lo, X, U, rm, S, R, s1, s2, nm, gl, fp⟩ := t
 refine (sroom_ok (n := n) S).mono ?_
 rintro y h1 ⟨rfl, ha⟩
 exact ⟨rfl, one_of S fp ha (rm' := max 0 (min n 1000000)) (R.rom (n := n)) s1 s2 nm gl⟩
theorem one_crash (t : One h s D P) (hA : D.A.length ≤ 10000) (hf : B.val h.floor ≤ B.val h.next) : FnOk Try.prog 28 [.p s 0 0 3, .i .i64 n, .i .i64 m] h fun y h1 => y = .tu [] ∧
   ∃ P', One h1 s { D with L := crashR D.K D.A n m, K := crashR D.K D.A n m, A := [] } P' ∧ Grow h h1 P P' := by
 obtain ⟨mp, lo, X, U, rm, S, R, s1, s2, nm, gl, fp⟩ := t
 have hac : U.length = D.A.length := by have := R.acts; rwa [List.length_map] at this
 refine (scrash_ok S R (by omega) hf).mono ?_
 rintro y h1 ⟨rfl, C', hs, ha⟩
 have hn : (nam C').Nodup := by
   obtain ⟨mp', lo', X', U', rfl, _, S', st, fp'⟩ := ha
   have := S'.nod
   have e : nam (bX X') = nam X' := by
     unfold nam
     show List.map _ (List.map _ _) = _
     rw [List.map_map]; rfl
   rw [e]; exact this
 exact ⟨rfl, one_of S fp ha (R.crash hn hs) (srt_crash s2) (srt_crash s2) ⟨nm_crash nm, fun a ha => by cases ha⟩ fun u hu => by cases hu⟩
theorem one_get (t : One h s D P) : FnOk Try.prog 31 [.p s 0 0 3, sv k] h fun y h' => y = .tu [sv ((gt D.L k).getD []), .i .i64 (if gt D.L k = none then 14 else 0)] ∧ h' = h := by
 obtain ⟨mp, lo, X, U, rm, S, R, s1, s2, nm, gl, fp⟩ := t
 have := sget_ok S (k := k)
 rwa [R.sam] at this
theorem one_names (t : One h s D P) (hf : B.val h.floor ≤ B.val h.next) : FnOk Try.prog 35 [.p s 0 0 3] h fun y h' => Ss 1 kC h' y (nam D.L) ∧ Stay nowhere h h' ∧ ∀ p, isOf y p → B.val h.next ≤ B.val p := by
 obtain ⟨mp, lo, X, U, rm, S, R, s1, s2, nm, gl, fp⟩ := t
 have hX : X.length = D.L.length := by have := R.len; rwa [len_bX] at this
 have h2 := R.okL.1
 have := names_ok S (fun x hx => nm.L R (x.1, x.2.2) (R.perm.mem_iff.1 (List.mem_map.2 ⟨x, hx, rfl⟩))) (by omega) hf
 rwa [names_eq R s1] at this
theorem one_used (t : One h s D P) : FnOk Try.prog 36 [.p s 0 0 3] h fun y h' => y = .i .i64 (usedR D.L : Int) ∧ h' = h := by
 obtain ⟨mp, lo, X, U, rm, S, R, s1, s2, nm, gl, fp⟩ := t
 have h2 := R.okL.2
 have := sused_ok S (by rw [R.used]; omega)
 rwa [R.used] at this
theorem one_left (t : One h s D P) : FnOk Try.prog 48 [.p s 0 0 3] h fun y h' => y = .i .i64 (max (D.most - (usedR D.L : Int)) 0) ∧ h' = h := by
 obtain ⟨mp, lo, X, U, rm, S, R, s1, s2, nm, gl, fp⟩ := t
 have h2 := R.okL.2
 have h3 := R.r0
 have h4 := R.r1
 have := sleft_ok S (by rw [R.used]; omega) (by rw [R.room]; exact h3) (by rw [R.room]; exact h4)
 rwa [R.used, R.room] at this
theorem one_loose (t : One h s D P) (hA : D.A.length ≤ 10000) : FnOk Try.prog 34 [.p s 0 0 3] h fun y h' => y = .i .i64 (D.A.length : Int) ∧ h' = h := by
 obtain ⟨mp, lo, X, U, rm, S, R, s1, s2, nm, gl, fp⟩ := t
 have hac : U.length = D.A.length := by have := R.acts; rwa [List.length_map] at this
 have := sloose_ok S (by omega)
 rwa [hac] at this
theorem one_alike {r : B} {vL vK vA : V} (t : One h s D P) (Sr : RfS h r vL vK vA D) (hA : D.A.length ≤ 10000) (hf : B.val h.floor ≤ B.val h.next) : FnOk Try.prog 33 [.p s 0 0 3, .p r 0 0 4] h fun y h' => y = .b true ∧ Stay nowhere h h' := by
 obtain ⟨mp, lo, X, U, rm, S, R, s1, s2, nm, gl, fp⟩ := t
 have hac : U.length = D.A.length := by have := R.acts; rwa [List.length_map] at this
 exact alike_ok S Sr R s1 (fun x hx => nm.L R (x.1, x.2.2) (R.perm.mem_iff.1 (List.mem_map.2 ⟨x, hx, rfl⟩))) (by omega) hf
theorem sam_perm {C L : List Fi} (hn : (nam C).Nodup) (p : C.Perm L) : Sam C L := fun k => by
 have hl : (nam L).Nodup := (p.map _).nodup_iff.1 hn
 cases hg : gt C k with
 | some v => 
   have hm : (k, v) ∈ L := p.mem_iff.1 ((gt_perm hg).mem_iff.2 (List.mem_cons_self ..))
   cases hk : gt L k with
   | none => exact absurd (List.mem_map.2 ⟨_, hm, rfl⟩) (gt_none.1 hk)
   | some w =>
     have h2 := (gt_perm hk)
     have h3 : (k, v) ∈ (k, w) :: dl L k := h2.mem_iff.1 hm
     rcases List.mem_cons.1 h3 with e | e
     · rw [(Prod.mk.inj e).2]
     · have : gt (dl L k) k = none := by rw [gt_dl hl, if_pos rfl]
       exact absurd (List.mem_map.2 ⟨_, e, rfl⟩) (gt_none.1 this)
 | none =>
   have h1 := gt_none.1 hg
   exact (gt_none.2 fun e => h1 ((p.map _).mem_iff.2 e)).symm
theorem used_mem : ∀ {L : List Fi} {x : Fi}, x ∈ L → x.2.length ≤ usedR L
 | a :: L, x, h => by
   have e : usedR (a :: L) = a.2.length + usedR L := by unfold usedR; rw [List.map_cons, List.sum_cons]
   rcases List.mem_cons.1 h with h1 | h1
   · rw [e, h1]; omega
   · have := used_mem h1; omega
theorem one_copy (t : One h s D P) (hA : D.A.length ≤ 10000) (hf : B.val h.floor ≤ B.val h.next) : FnN Try.prog 30 [.p s 0 0 3] h fun y h' => Stay nowhere h h' ∧ ∃ c P', y = .p c 0 0 3 ∧ One h' c D P' ∧ ∀ q, P' q → B.val h.next ≤ B.val q := by
 obtain ⟨mp, lo, X, U, rm, S, R, s1, s2, nm, gl, fp⟩ := t
 have hac : U.length = D.A.length := by have := R.acts; rwa [List.length_map] at this
 have hX : X.length = D.L.length := by have := R.len; rwa [len_bX] at this
 have okL := R.okL
 have hmap := S.map
 have src : SrcR (reFloor h).next (reFloor h) s mp lo X U rm := by
   rw [reFloor_next]
   refine ⟨row_re S.own.row, ?_, ss_re' (Ss.buf S.buf rfl actG_len (by omega)), fun hlo => ?_, fun f hf => (S.fil f hf).r.re, S.slt, fun q hq => (S.buf.own hq).2⟩
   · rcases hmap with ⟨e1, e2, _⟩ | ⟨id, e, mC⟩
     · exact .inl ⟨e1, e2⟩
     · exact .inr ⟨id, e, mC.b.mf, mC.lt⟩
   · rcases S.buf with ⟨e, _⟩ | ⟨id, g, nn, blk, e, h1, h2, _⟩
     · exact absurd e hlo
     · intro e; subst e
       have : (0 : Nat) = nn * 6 := h2
       omega
 have hlen : ∀ f ∈ live X U, f.2.length ≤ 1000000 := fun f hf => by
   rcases List.mem_append.1 hf with h1 | h1
   · obtain ⟨x, hx, rfl⟩ := List.mem_map.1 h1
     have hm : (x.1, x.2.2) ∈ D.L := R.perm.mem_iff.1 (List.mem_map.2 ⟨x, hx, rfl⟩)
     have : x.2.2.length ≤ usedR D.L := by
       exact used_mem hm
     have := okL.2
     omega
   · obtain ⟨u, hu, h2⟩ := List.mem_flatMap.1 h1
     cases hg : u.gone with
     | none => rw [hg] at h2; cases h2
     | some f0 =>
       rw [hg] at h2
       have : f = f0 := by simpa using h2
       subst this
       exact gl (absA u) (List.mem_map.2 ⟨u, hu, rfl⟩) f.2 (by unfold absA; rw [hg]; rfl)
 have := copy_n src (by have := okL.1; omega) (by omega) hlen (by rw [reFloor_floor, reFloor_next]; exact Nat.le_refl _)
 refine (FnN.low hf this).mono ?_
 rintro y g ⟨g', ⟨c, cm, lo', X', U', rfl, cx, hp, hu⟩, f1, n1, st, rfl⟩
 rw [reFloor_next] at cx
 have loB : Buf (unFloor h g') 84 6 lo' (U'.flatMap actG) := by
   rcases cx.loo with ⟨rfl, rfl⟩ | ⟨hne, q, rfl, o, l⟩
   · exact Buf.nil _ _ _
   · obtain ⟨⟨blk, h1, h2, h3, h4, h5, h6, h7⟩, o2, o3⟩ := o.un f1 hf
     have hl := fm_len actG_len U'
     refine .inr ⟨q, 0, U'.length, blk, by rw [hl], ?_, hl, o2, o3, h1, ⟨by omega, by omega⟩, h6, h5, h4, h7⟩
     cases U' with
     | nil => exact absurd rfl hne
     | cons a l => simp
 have S' : ShM (unFloor h g') c (.m cm) lo' X' U' U' rm :=
   ⟨(cx.own.un f1 hf).own, .inr ⟨cm, rfl, mapC_un cx.map f1 hf⟩, loB, fun f hf' => ((cx.fil f hf').un f1 hf).m, fun e => cx.cc (by cases e; rfl), cx.ls, fun id e => by cases e; exact cx.lm, fun f hf' q hq => ⟨(cx.fs f hf' q hq).2.1, fun e => (cx.fs f hf' q hq).2.2.1 (by cases e; rfl), (cx.fs f hf' q hq).2.2.2⟩, cx.fp⟩
 have hn' : (nam (bX X')).Nodup := (hp.map _).nodup_iff.2 R.nodC
 refine ⟨st, c, _, rfl, ⟨.m cm, lo', X', U', rm, S', ⟨fun k => (sam_perm hn' hp k).trans (R.sam k), hn', R.nodK, R.ok, R.run, by rw [hu]; exact R.chain, R.room, R.r0, R.r1⟩, s1, s2, nm, by rw [hu]; exact gl, fun q => Iff.rfl⟩, ?_⟩
 rintro q (e | e | e | ⟨f, hf', e⟩)
 · rw [e]; exact cx.nc
 · cases e; exact cx.nm
 · rcases cx.loo with ⟨_, rfl⟩ | ⟨_, q', rfl, o, l⟩
   · obtain ⟨_, _, _, _, _, e⟩ := e; cases e
   · obtain ⟨_, _, _, _, _, e⟩ := e; cases e; exact l
 · exact (cx.fs f hf' q e).1
end
end Go.Proofs.Ytjlhfoadabkahaa

set_option maxRecDepth 1000000
set_option linter.all false
namespace Go.Proofs.Ytjlhfoadabkahaa
open Go Go.Ev
noncomputable abbrev s12_0 : CC := (CC.region [(wB 12 (doCall 14 [(oN 20)])), (wB 1 (doMove (tm 12)))])
noncomputable abbrev s12_1 : CC := (CC.seq (CC.region [(wB 0 (doMove (O.c (V.b Bool.false))))]) CC.ret)
noncomputable abbrev s12_2 : CC := (CC.cond (tm 14) s12_1 CC.skip)
noncomputable abbrev s12_3 : CC := (CC.seq (CC.region [(wB 13 (doMove (tm 1))), (wB 14 (doPtr Bool.false (tm 13) (O.c V.p0)))]) s12_2)
noncomputable abbrev s12_4 : CC := (CC.region [(wB 15 (doMove (tm 1))), (wB 16 (doCall 16 [(tm 15), (O.c (V.s 1 120)), (O.c (V.s 2 24930))])), (wB 2 (doMove (tm 16)))])
noncomputable abbrev s12_5 : CC := (CC.region [(wB 17 (doMove (tm 1))), (wB 18 (doCall 24 [(tm 17)]))])
noncomputable abbrev s12_6 : CC := (CC.region [(wB 19 (doMove (tm 1))), (wB 20 (doCall 18 [(tm 19), (O.c (V.s 1 120)), (O.c (V.s 2 25444))])), (wB 3 (doMove (tm 20)))])
noncomputable abbrev s12_7 : CC := (CC.region [(wB 21 (doMove (tm 1))), (wB 22 (doCall 16 [(tm 21), (O.c (V.s 1 121)), (O.c (V.s 1 113))])), (wB 4 (doMove (tm 22)))])
noncomputable abbrev s12_8 : CC := (CC.region [(wB 23 (doMove (tm 1))), (wB 24 (doCall 16 [(tm 23), (O.c (V.s 1 89)), (O.c (V.s 0 0))])), (wB 5 (doMove (tm 24)))])
noncomputable abbrev s12_9 : CC := (CC.region [(wB 25 (doMove (tm 1))), (wB 26 (doCall 18 [(tm 25), (O.c (V.s 1 122)), (O.c (V.s 0 0))])), (wB 6 (doMove (tm 26)))])
noncomputable abbrev s12_10 : CC := (CC.region [(wB 27 (doMove (tm 1))), (wB 28 (doCall 16 [(tm 27), (O.c (V.s 1 119)), (O.c (V.s 20 275128666552365745816705927789606773184219527225))])), (wB 7 (doMove (tm 28)))])
noncomputable abbrev s12_11 : CC := (CC.region [(wB 29 (doMove (tm 1))), (wB 30 (doCall 34 [(tm 29)])), (wB 8 (doMove (tm 30)))])
noncomputable abbrev c12_0 : CaP := (CaP.mk [(wB 31 (doMove (tm 1)))] 30 [(tm 31)] 32 [(wB 9 (doMove (tm 32)))])
noncomputable abbrev s12_12 : CC := (CC.seq (CC.region [(wB 42 (doMove (tm 2))), (wB 43 (bin2 fEql (tm 42) (oN 0))), (wB 44 (doMove (tm 43))), (wG 44 true 45 (doMove (tm 3))), (wG 44 true 46 (bin2 fEql (tm 45) (oN 0))), (wB 47 (doPick (tm 44) (tm 46) (O.c (V.b Bool.false)))), (wB 48 (doMove (tm 47))), (wG 48 true 49 (doMove (tm 4))), (wG 48 true 50 (bin2 fEql (tm 49) (oN 0))), (wB 51 (doPick (tm 48) (tm 50) (O.c (V.b Bool.false)))), (wB 52 (doMove (tm 51))), (wG 52 true 53 (doMove (tm 5))), (wG 52 true 54 (bin2 fEql (tm 53) (oN 10))), (wB 55 (doPick (tm 52) (tm 54) (O.c (V.b Bool.false)))), (wB 56 (doMove (tm 55))), (wG 56 true 57 (doMove (tm 6))), (wG 56 true 58 (bin2 fEql (tm 57) (oN 14))), (wB 59 (doPick (tm 56) (tm 58) (O.c (V.b Bool.false)))), (wB 60 (doMove (tm 59))), (wG 60 true 61 (doMove (tm 7))), (wG 60 true 62 (bin2 fEql (tm 61) (oN 15))), (wB 63 (doPick (tm 60) (tm 62) (O.c (V.b Bool.false)))), (wB 64 (doMove (tm 63))), (wG 64 true 65 (doMove (tm 8))), (wG 64 true 66 (bin2 fEql (tm 65) (oN 2))), (wB 67 (doPick (tm 64) (tm 66) (O.c (V.b Bool.false)))), (wB 68 (doMove (tm 67))), (wG 68 true 69 (doMove (tm 11))), (wG 68 true 70 (bin2 fEql (tm 69) (oN 0))), (wB 71 (doPick (tm 68) (tm 70) (O.c (V.b Bool.false)))), (wB 72 (doMove (tm 71))), (wG 72 true 73 (doMove (tm 10))), (wG 72 true 74 (doSCmp eqS (tm 73) (O.c (V.s 3 6382179)))), (wB 75 (doPick (tm 72) (tm 74) (O.c (V.b Bool.false)))), (wB 76 (doMove (tm 75))), (wG 76 true 77 (doMove (tm 1))), (wG 76 true 78 (doCall 35 [(tm 77)])), (wG 76 true 79 (doLen (tm 78))), (wG 76 true 80 (bin2 fEql (tm 79) (oN 1))), (wB 81 (doPick (tm 76) (tm 80) (O.c (V.b Bool.false)))), (wB 82 (doMove (tm 81))), (wG 82 true 83 (doMove (tm 9))), (wG 82 true 84 (doCall 35 [(tm 83)])), (wG 82 true 85 (doLen (tm 84))), (wG 82 true 86 (bin2 fEql (tm 85) (oN 2))), (wB 87 (doPick (tm 82) (tm 86) (O.c (V.b Bool.false)))), (wB 88 (doMove (tm 87))), (wG 88 true 89 (doMove (tm 1))), (wG 88 true 90 (doCall 36 [(tm 89)])), (wG 88 true 91 (bin2 fEql (tm 90) (oN 3))), (wB 92 (doPick (tm 88) (tm 91) (O.c (V.b Bool.false)))), (wB 93 (doMove (tm 92))), (wG 93 true 94 (doMove (tm 1))), (wG 93 true 95 (doCall 48 [(tm 94)])), (wG 93 true 96 (bin2 fEql (tm 95) (oN 17))), (wB 97 (doPick (tm 93) (tm 96) (O.c (V.b Bool.false)))), (wB 98 (doMove (tm 97))), (wG 98 true 99 (doMove (tm 1))), (wG 98 true 100 (doCall 34 [(tm 99)])), (wG 98 true 101 (bin2 fEql (tm 100) (oN 0))), (wB 102 (doPick (tm 98) (tm 101) (O.c (V.b Bool.false)))), (wB 103 (doMove (tm 102))), (wG 103 true 104 (doMove (tm 1))), (wG 103 true 105 (doCall 20 [(tm 104), (O.c (V.s 1 120)), (O.c (V.s 1 118))])), (wG 103 true 106 (bin2 fEql (tm 105) (oN 0))), (wB 107 (doPick (tm 103) (tm 106) (O.c (V.b Bool.false)))), (wB 108 (doMove (tm 107))), (wG 108 true 109 (doMove (tm 1))), (wG 108 true 110 (doCall 22 [(tm 109), (O.c (V.s 1 118))])), (wG 108 true 111 (bin2 fEql (tm 110) (oN 0))), (wB 112 (doPick (tm 108) (tm 111) (O.c (V.b Bool.false)))), (wB 0 (doMove (tm 112)))]) CC.ret)
noncomputable abbrev s12_13 : CC := (CC.seq (CC.region [(wB 40 (doMove (tm 9))), (wB 41 (doCall 28 [(tm 40), (oN 9), (oN 9)]))]) s12_12)
noncomputable abbrev s12_14 : CC := (CC.seq (CC.region [(wB 36 (doMove (tm 1))), (wB 37 (doCall 31 [(tm 36), (O.c (V.s 1 120))])), (wB 35 (doMove (tm 37))), (wB 38 (doExtract 0 (tm 35))), (wB 39 (doExtract 1 (tm 35))), (wB 10 (doMove (tm 38))), (wB 11 (doMove (tm 39)))]) s12_13)
noncomputable abbrev s12_15 : CC := (CC.seq (CC.region [(wB 33 (doMove (tm 1))), (wB 34 (doCall 28 [(tm 33), (oN 0), (oN 1)]))]) s12_14)
noncomputable abbrev s12_16 : Sh := (Sh.cc s12_15)
noncomputable abbrev s12_17 : Sh := (Sh.seq (Sh.call c12_0) s12_16)
noncomputable abbrev s12_18 : Sh := (Sh.seq (Sh.cc s12_11) s12_17)
noncomputable abbrev s12_19 : Sh := (Sh.seq (Sh.cc s12_10) s12_18)
noncomputable abbrev s12_20 : Sh := (Sh.seq (Sh.cc s12_9) s12_19)
noncomputable abbrev s12_21 : Sh := (Sh.seq (Sh.cc s12_8) s12_20)
noncomputable abbrev s12_22 : Sh := (Sh.seq (Sh.cc s12_7) s12_21)
noncomputable abbrev s12_23 : Sh := (Sh.seq (Sh.cc s12_6) s12_22)
noncomputable abbrev s12_24 : Sh := (Sh.seq (Sh.cc s12_5) s12_23)
noncomputable abbrev s12_25 : Sh := (Sh.seq (Sh.cc s12_4) s12_24)
noncomputable abbrev s12_26 : Sh := (Sh.seq (Sh.cc s12_3) s12_25)
noncomputable abbrev s12_27 : Sh := (Sh.seq (Sh.cc s12_0) s12_26)
noncomputable abbrev b12 : Sh := (Sh.seq (Sh.cc (CC.region [(wB 0 (doMove (O.c (V.b Bool.false))))])) s12_27)
theorem cs12 : shFnN Try.prog [30] 12 = ⟨113, b12, [(Rs.tmp (slOf 0))]⟩ := by kernel_rfl
noncomputable abbrev s3_0 : CC := (CC.seq (CC.region [(wB 4 (doMove (O.c (V.b Bool.false))))]) CC.ret)
noncomputable abbrev s3_1 : CC := (CC.cond (tm 17) s3_0 CC.skip)
noncomputable abbrev s3_2 : CC := (CC.seq (CC.region [(wB 16 (doCall 12 [])), (wB 17 (doNot (tm 16)))]) s3_1)
noncomputable abbrev s3_3 : CC := (CC.seq (CC.region [(wB 4 (doMove (O.c (V.b Bool.true))))]) CC.ret)
noncomputable abbrev s3_4 : CC := (CC.cond (tm 20) s3_3 CC.skip)
noncomputable abbrev s3_5 : CC := (CC.seq (CC.region [(wB 18 (doMove (tm 1))), (wB 19 (doCall 13 [(tm 18)])), (wB 20 (doNot (tm 19)))]) s3_4)
noncomputable abbrev s3_6 : CC := (CC.region [(wB 21 (doMove (tm 0))), (wB 22 (doCall 14 [(tm 21)])), (wB 23 (doMove (tm 0))), (wB 24 (doCall 15 [(tm 23)])), (wB 5 (doMove (tm 22))), (wB 6 (doMove (tm 24)))])
noncomputable abbrev s3_7 : CC := (CC.cond (tm 28) CC.skip (CC.exit 0))
noncomputable abbrev s3_8 : CC := (CC.seq (CC.region [(wB 25 (doMove (tm 7))), (wB 26 (doMove (tm 1))), (wB 27 (doLen (tm 26))), (wB 28 (bin2 fLss (tm 25) (tm 27)))]) s3_7)
noncomputable abbrev s3_9 : CC := (CC.region [(wB 8 (doMove (oN 0))), (wB 9 (doMove (oN 0)))])
noncomputable abbrev s3_10 : CC := (CC.region [(wB 31 (doMove (tm 1))), (wB 32 (doMove (tm 7))), (wB 33 (doIndexAddr 6 (tm 31) (tm 32))), (wB 34 (doLoadA 6 (tm 33))), (wB 10 (doAlloc 31 [(V.i IntKind.i64 (Int.ofNat 0)), (V.i IntKind.i64 (Int.ofNat 0)), (V.i IntKind.i64 (Int.ofNat 0)), (V.s 0 0), (V.s 0 0), (V.s 0 0)])), (CO.mk G.none D.none Bool.true (CR.mk (doStore 6 (tm 10) (tm 34))))])
noncomputable abbrev s3_11 : CC := (CC.region [(wB 43 (doFieldAddr 0 (tm 10))), (wB 44 (doLoad (tm 43))), (wB 45 (bin2 fLeq (tm 44) (oN 1))), (wB 42 (doMove (tm 45)))])
noncomputable abbrev s3_12 : CC := (CC.draws [(uB 46 (doMove (tm 5))), (uB 47 (doFieldAddr 3 (tm 10))), (uB 48 (doLoad (tm 47))), (uB 49 (doFieldAddr 5 (tm 10))), (uB 50 (doLoad (tm 49))), (uB 51 (doCall 16 [(tm 46), (tm 48), (tm 50)])), (uB 52 (doMove (tm 6))), (uB 53 (doFieldAddr 3 (tm 10))), (uB 54 (doLoad (tm 53))), (uB 55 (doFieldAddr 5 (tm 10))), (uB 56 (doLoad (tm 55))), (wB 57 (doCall 17 [(tm 52), (tm 54), (tm 56)])), (uB 8 (doMove (tm 51))), (uB 9 (doMove (tm 57)))])
noncomputable abbrev s3_13 : Sh := (Sh.cc s3_12)
noncomputable abbrev s3_14 : CC := (CC.region [(wB 59 (doFieldAddr 0 (tm 10))), (wB 60 (doLoad (tm 59))), (wB 61 (bin2 fLeq (tm 60) (oN 3))), (wB 58 (doMove (tm 61)))])
noncomputable abbrev s3_15 : CC := (CC.draws [(uB 62 (doMove (tm 5))), (uB 63 (doFieldAddr 3 (tm 10))), (uB 64 (doLoad (tm 63))), (uB 65 (doFieldAddr 5 (tm 10))), (uB 66 (doLoad (tm 65))), (uB 67 (doCall 18 [(tm 62), (tm 64), (tm 66)])), (uB 68 (doMove (tm 6))), (uB 69 (doFieldAddr 3 (tm 10))), (uB 70 (doLoad (tm 69))), (uB 71 (doFieldAddr 5 (tm 10))), (uB 72 (doLoad (tm 71))), (wB 73 (doCall 19 [(tm 68), (tm 70), (tm 72)])), (uB 8 (doMove (tm 67))), (uB 9 (doMove (tm 73)))])
noncomputable abbrev s3_16 : Sh := (Sh.cc s3_15)
noncomputable abbrev s3_17 : CC := (CC.region [(wB 75 (doFieldAddr 0 (tm 10))), (wB 76 (doLoad (tm 75))), (wB 77 (bin2 fEql (tm 76) (oN 4))), (wB 74 (doMove (tm 77)))])
noncomputable abbrev s3_18 : CC := (CC.draws [(uB 78 (doMove (tm 5))), (uB 79 (doFieldAddr 3 (tm 10))), (uB 80 (doLoad (tm 79))), (uB 81 (doFieldAddr 4 (tm 10))), (uB 82 (doLoad (tm 81))), (uB 83 (doCall 20 [(tm 78), (tm 80), (tm 82)])), (uB 84 (doMove (tm 6))), (uB 85 (doFieldAddr 3 (tm 10))), (uB 86 (doLoad (tm 85))), (uB 87 (doFieldAddr 4 (tm 10))), (uB 88 (doLoad (tm 87))), (wB 89 (doCall 21 [(tm 84), (tm 86), (tm 88)])), (uB 8 (doMove (tm 83))), (uB 9 (doMove (tm 89)))])
noncomputable abbrev s3_19 : Sh := (Sh.cc s3_18)
noncomputable abbrev s3_20 : CC := (CC.region [(wB 91 (doFieldAddr 0 (tm 10))), (wB 92 (doLoad (tm 91))), (wB 93 (bin2 fEql (tm 92) (oN 5))), (wB 90 (doMove (tm 93)))])
noncomputable abbrev s3_21 : CC := (CC.draws [(uB 94 (doMove (tm 5))), (uB 95 (doFieldAddr 3 (tm 10))), (uB 96 (doLoad (tm 95))), (uB 97 (doCall 22 [(tm 94), (tm 96)])), (uB 98 (doMove (tm 6))), (uB 99 (doFieldAddr 3 (tm 10))), (uB 100 (doLoad (tm 99))), (wB 101 (doCall 23 [(tm 98), (tm 100)])), (uB 8 (doMove (tm 97))), (uB 9 (doMove (tm 101)))])
noncomputable abbrev s3_22 : Sh := (Sh.cc s3_21)
noncomputable abbrev s3_23 : CC := (CC.region [(wB 103 (doFieldAddr 0 (tm 10))), (wB 104 (doLoad (tm 103))), (wB 105 (bin2 fEql (tm 104) (oN 6))), (wB 102 (doMove (tm 105)))])
noncomputable abbrev s3_24 : CC := (CC.region [(wB 108 (doMove (tm 6))), (wB 109 (doCall 25 [(tm 108)]))])
noncomputable abbrev s3_25 : CC := (CC.seq (CC.region [(wB 106 (doMove (tm 5))), (wB 107 (doCall 24 [(tm 106)]))]) s3_24)
noncomputable abbrev s3_26 : Sh := (Sh.cc s3_25)
noncomputable abbrev s3_27 : CC := (CC.region [(wB 111 (doFieldAddr 0 (tm 10))), (wB 112 (doLoad (tm 111))), (wB 113 (bin2 fEql (tm 112) (oN 7))), (wB 110 (doMove (tm 113)))])
noncomputable abbrev s3_28 : CC := (CC.region [(wB 118 (doMove (tm 6))), (wB 119 (doFieldAddr 1 (tm 10))), (wB 120 (doLoad (tm 119))), (wB 121 (doCall 27 [(tm 118), (tm 120)]))])
noncomputable abbrev s3_29 : CC := (CC.seq (CC.region [(wB 114 (doMove (tm 5))), (wB 115 (doFieldAddr 1 (tm 10))), (wB 116 (doLoad (tm 115))), (wB 117 (doCall 26 [(tm 114), (tm 116)]))]) s3_28)
noncomputable abbrev s3_30 : Sh := (Sh.cc s3_29)
noncomputable abbrev s3_31 : CC := (CC.region [(wB 123 (doFieldAddr 0 (tm 10))), (wB 124 (doLoad (tm 123))), (wB 125 (bin2 fEql (tm 124) (oN 8))), (wB 122 (doMove (tm 125)))])
noncomputable abbrev s3_32 : CC := (CC.region [(wB 132 (doMove (tm 6))), (wB 133 (doFieldAddr 1 (tm 10))), (wB 134 (doLoad (tm 133))), (wB 135 (doFieldAddr 2 (tm 10))), (wB 136 (doLoad (tm 135))), (wB 137 (doCall 29 [(tm 132), (tm 134), (tm 136)]))])
noncomputable abbrev s3_33 : CC := (CC.seq (CC.region [(wB 126 (doMove (tm 5))), (wB 127 (doFieldAddr 1 (tm 10))), (wB 128 (doLoad (tm 127))), (wB 129 (doFieldAddr 2 (tm 10))), (wB 130 (doLoad (tm 129))), (wB 131 (doCall 28 [(tm 126), (tm 128), (tm 130)]))]) s3_32)
noncomputable abbrev s3_34 : Sh := (Sh.cc s3_33)
noncomputable abbrev s3_35 : CC := (CC.region [(wB 35 (doMove (tm 5))), (wB 11 (doMove (tm 35)))])
noncomputable abbrev c3_0 : CaP := (CaP.mk [(wB 36 (doMove (tm 5)))] 30 [(tm 36)] 37 [(wB 5 (doMove (tm 37)))])
noncomputable abbrev s3_36 : CC := (CC.region [(wB 40 (doMove (tm 11))), (wB 41 (doCall 16 [(tm 40), (O.c (V.s 5 478694368626)), (O.c (V.s 5 422944466291))]))])
noncomputable abbrev s3_37 : CC := (CC.seq (CC.region [(wB 38 (doMove (tm 11))), (wB 39 (doCall 28 [(tm 38), (oN 0), (oN 0)]))]) s3_36)
noncomputable abbrev s3_38 : Sh := (Sh.cc s3_37)
noncomputable abbrev s3_39 : Sh := (Sh.seq (Sh.call c3_0) s3_38)
noncomputable abbrev s3_40 : Sh := (Sh.seq (Sh.cc s3_35) s3_39)
noncomputable abbrev s3_41 : Sh := (Sh.cond (tm 122) s3_34 s3_40)
noncomputable abbrev s3_42 : Sh := (Sh.seq (Sh.cc s3_31) s3_41)
noncomputable abbrev s3_43 : Sh := (Sh.cond (tm 110) s3_30 s3_42)
noncomputable abbrev s3_44 : Sh := (Sh.seq (Sh.cc s3_27) s3_43)
noncomputable abbrev s3_45 : Sh := (Sh.cond (tm 102) s3_26 s3_44)
noncomputable abbrev s3_46 : Sh := (Sh.seq (Sh.cc s3_23) s3_45)
noncomputable abbrev s3_47 : Sh := (Sh.cond (tm 90) s3_22 s3_46)
noncomputable abbrev s3_48 : Sh := (Sh.seq (Sh.cc s3_20) s3_47)
noncomputable abbrev s3_49 : Sh := (Sh.cond (tm 74) s3_19 s3_48)
noncomputable abbrev s3_50 : Sh := (Sh.seq (Sh.cc s3_17) s3_49)
noncomputable abbrev s3_51 : Sh := (Sh.cond (tm 58) s3_16 s3_50)
noncomputable abbrev s3_52 : Sh := (Sh.seq (Sh.cc s3_14) s3_51)
noncomputable abbrev s3_53 : Sh := (Sh.cond (tm 42) s3_13 s3_52)
noncomputable abbrev s3_54 : Sh := (Sh.seq (Sh.cc s3_11) s3_53)
noncomputable abbrev s3_55 : Sh := (Sh.block 2 s3_54)
noncomputable abbrev s3_56 : CC := (CC.seq (CC.region [(wB 4 (doMove (O.c (V.b Bool.false))))]) CC.ret)
noncomputable abbrev s3_57 : CC := (CC.cond (tm 176) s3_56 CC.skip)
noncomputable abbrev s3_58 : CC := (CC.seq (CC.region [(wB 158 (doMove (tm 8))), (wB 159 (doMove (tm 9))), (wB 160 (bin2 fNeq (tm 158) (tm 159))), (wB 161 (doMove (tm 160))), (wG 161 false 162 (doMove (tm 5))), (wG 161 false 163 (doMove (tm 6))), (wG 161 false 164 (doCall 33 [(tm 162), (tm 163)])), (wG 161 false 165 (doNot (tm 164))), (wB 166 (doPick (tm 161) (O.c (V.b Bool.true)) (tm 165))), (wB 167 (doMove (tm 166))), (wG 167 false 168 (doMove (tm 12))), (wG 167 false 169 (doMove (tm 14))), (wG 167 false 170 (doSCmp (fun a b c d => !eqS a b c d) (tm 168) (tm 169))), (wB 171 (doPick (tm 167) (O.c (V.b Bool.true)) (tm 170))), (wB 172 (doMove (tm 171))), (wG 172 false 173 (doMove (tm 13))), (wG 172 false 174 (doMove (tm 15))), (wG 172 false 175 (bin2 fNeq (tm 173) (tm 174))), (wB 176 (doPick (tm 172) (O.c (V.b Bool.true)) (tm 175)))]) s3_57)
noncomputable abbrev s3_59 : CC := (CC.seq (CC.region [(wB 149 (doMove (tm 6))), (wB 150 (doMove (tm 1))), (wB 151 (doMove (tm 7))), (wB 152 (doIndexAddr 6 (tm 150) (tm 151))), (wB 153 (doFieldAddr 3 (tm 152))), (wB 154 (doLoad (tm 153))), (wB 155 (doCall 32 [(tm 149), (tm 154)])), (wB 148 (doMove (tm 155))), (wB 156 (doExtract 0 (tm 148))), (wB 157 (doExtract 1 (tm 148))), (wB 14 (doMove (tm 156))), (wB 15 (doMove (tm 157)))]) s3_58)
noncomputable abbrev s3_60 : CC := (CC.seq (CC.region [(wB 139 (doMove (tm 5))), (wB 140 (doMove (tm 1))), (wB 141 (doMove (tm 7))), (wB 142 (doIndexAddr 6 (tm 140) (tm 141))), (wB 143 (doFieldAddr 3 (tm 142))), (wB 144 (doLoad (tm 143))), (wB 145 (doCall 31 [(tm 139), (tm 144)])), (wB 138 (doMove (tm 145))), (wB 146 (doExtract 0 (tm 138))), (wB 147 (doExtract 1 (tm 138))), (wB 12 (doMove (tm 146))), (wB 13 (doMove (tm 147)))]) s3_59)
noncomputable abbrev s3_61 : Sh := (Sh.cc s3_60)
noncomputable abbrev s3_62 : Sh := (Sh.seq (Sh.seq (Sh.cc s3_10) s3_55) s3_61)
noncomputable abbrev s3_63 : Sh := (Sh.seq (Sh.cc s3_9) s3_62)
noncomputable abbrev s3_64 : CC := (CC.region [(wB 29 (doMove (tm 7))), (wB 30 (bin2 fAdd (tm 29) (oN 1))), (wB 7 (doMove (tm 30)))])
noncomputable abbrev s3_65 : Sh := (Sh.cc s3_64)
noncomputable abbrev s3_66 : Sh := (Sh.seq (Sh.block 1 s3_63) s3_65)
noncomputable abbrev s3_67 : Sh := (Sh.seq (Sh.cc s3_8) s3_66)
noncomputable abbrev s3_68 : Sh := (Sh.loop s3_67)
noncomputable abbrev s3_69 : Sh := (Sh.block 0 s3_68)
noncomputable abbrev s3_70 : CC := (CC.seq (CC.region [(wB 4 (doMove (O.c (V.b Bool.true))))]) CC.ret)
noncomputable abbrev s3_71 : Sh := (Sh.cc s3_70)
noncomputable abbrev s3_72 : Sh := (Sh.seq (Sh.seq (Sh.cc (CC.region [(wB 7 (doMove (oN 0)))])) s3_69) s3_71)
noncomputable abbrev s3_73 : Sh := (Sh.seq (Sh.cc s3_6) s3_72)
noncomputable abbrev s3_74 : Sh := (Sh.seq (Sh.cc s3_5) s3_73)
noncomputable abbrev s3_75 : Sh := (Sh.seq (Sh.cc s3_2) s3_74)
noncomputable abbrev b3 : Sh := (Sh.seq (Sh.cc (CC.region [(wB 4 (doMove (O.c (V.b Bool.false))))])) s3_75)
theorem cs3 : shFnN Try.prog [30] 3 = ⟨177, b3, [(Rs.tmp (slOf 4))]⟩ := by kernel_rfl
end Go.Proofs.Ytjlhfoadabkahaa

set_option maxRecDepth 100000
set_option maxHeartbeats 8000000
set_option linter.all false
namespace Go.Proofs.Ytjlhfoadabkahaa
open Go Go.Ev
section
variable {h : H}
theorem One.eq {s : B} {D D' : DS} {P : B → Prop} (o : One h s D P) (e : D = D') : One h s D' P := e ▸ o
theorem _root_.Go.Ev.FnOk.y {P : Program} {f : FuncId} {vs : List V} {e e' : V} (a : FnOk P f vs h fun y h' => y = e ∧ h' = h) (he : e = e') : FnOk P f vs h fun y h' => y = e' ∧ h' = h := he ▸ a
theorem known_n (hf : B.val h.floor ≤ B.val h.next) : FnN Try.prog 12 [] h fun y _ => y = .b true := by
 refine fn_so cs12 (by decide) (by simp) (by simp) fun Q hQ => ?_
 simp only [slotsF]
 repeat' (first
   | refine St.h ?_
   | simp (disch := first | omega | (simp only [lnv]; omega)) only [wlk, mwk, ↓get_put', ↓reduceIte, seval, sqs_m, sqs_r, sqs_e]
   | (with_reducible (first | apply cd_split | apply gd_split)) <;> (intro hc; (try simp only [hcn] at hc); (try simp only [hc]); (try simp only [hcl] at hc); try omega))
 refine CL.mk (one_new 20 hf) ?_
 rintro y h1 ⟨rfl, st, P1, o, _⟩
 have hf1 := st.fl hf
 clear st
 generalize h.next = s at o ⊢
 have o1 := o.eq (D' := ⟨[], [], [], 20⟩) (by kernel_rfl)
 clear o
 repeat' (first
   | refine St.h ?_
   | simp (disch := first | omega | (simp only [lnv]; omega)) only [wlk, mwk, ↓get_put', ↓reduceIte, seval, sqs_m, sqs_r, sqs_e, or_ptr, h2_ptr10]
   | (with_reducible (first | apply cd_split | apply gd_split)) <;> (intro hc; (try simp only [hcn] at hc); (try simp only [hc]); (try simp only [hcl] at hc); try omega))
 refine CL.mk (one_put o1 (k := [120]) (b := [97, 98]) (by simp) (by simp) (by simp) hf1) ?_
 rintro y h2 ⟨hy, P2, o2, g2⟩
 have hy : y = .i .i64 0 := hy.trans (by kernel_rfl)
 subst hy
 have hf2 := g2.1.fl hf1
 have o2 := o2.eq (D' := ⟨[([120], [97, 98])], [], [⟨1, [120], [97, 98]⟩], 20⟩) (by kernel_rfl)
 clear g2 o1
 repeat' (first
   | refine St.h ?_
   | simp (disch := first | omega | (simp only [lnv]; omega)) only [wlk, mwk, ↓get_put', ↓reduceIte, seval, sqs_m, sqs_r, sqs_e, or_ptr, h2_ptr10]
   | (with_reducible (first | apply cd_split | apply gd_split)) <;> (intro hc; (try simp only [hcn] at hc); (try simp only [hc]); (try simp only [hcl] at hc); try omega))
 refine CL.mk (one_keep o2) ?_
 rintro y h3 ⟨hy, P3, o3, g3⟩
 have hy : y = .tu [] := hy.trans (by kernel_rfl)
 subst hy
 have hf3 := g3.1.fl hf2
 have o3 := o3.eq (D' := ⟨[([120], [97, 98])], [([120], [97, 98])], [], 20⟩) (by kernel_rfl)
 clear g3 o2
 repeat' (first
   | refine St.h ?_
   | simp (disch := first | omega | (simp only [lnv]; omega)) only [wlk, mwk, ↓get_put', ↓reduceIte, seval, sqs_m, sqs_r, sqs_e, or_ptr, h2_ptr10]
   | (with_reducible (first | apply cd_split | apply gd_split)) <;> (intro hc; (try simp only [hcn] at hc); (try simp only [hc]); (try simp only [hcl] at hc); try omega))
 refine CL.mk (one_add o3 (k := [120]) (b := [99, 100]) (by simp) (by simp) hf3) ?_
 rintro y h4 ⟨hy, P4, o4, g4⟩
 have hy : y = .i .i64 0 := hy.trans (by kernel_rfl)
 subst hy
 have hf4 := g4.1.fl hf3
 have o4 := o4.eq (D' := ⟨[([120], [97, 98, 99, 100])], [([120], [97, 98])], [⟨2, [120], [99, 100]⟩], 20⟩) (by kernel_rfl)
 clear g4 o3
 repeat' (first
   | refine St.h ?_
   | simp (disch := first | omega | (simp only [lnv]; omega)) only [wlk, mwk, ↓get_put', ↓reduceIte, seval, sqs_m, sqs_r, sqs_e, or_ptr, h2_ptr10]
   | (with_reducible (first | apply cd_split | apply gd_split)) <;> (intro hc; (try simp only [hcn] at hc); (try simp only [hc]); (try simp only [hcl] at hc); try omega))
 refine CL.mk (one_put o4 (k := [121]) (b := [113]) (by simp) (by simp) (by simp) hf4) ?_
 rintro y h5 ⟨hy, P5, o5, g5⟩
 have hy : y = .i .i64 0 := hy.trans (by kernel_rfl)
 subst hy
 have hf5 := g5.1.fl hf4
 have o5 := o5.eq (D' := ⟨[([120], [97, 98, 99, 100]), ([121], [113])], [([120], [97, 98])], [⟨2, [120], [99, 100]⟩, ⟨1, [121], [113]⟩], 20⟩) (by kernel_rfl)
 clear g5 o4
 repeat' (first
   | refine St.h ?_
   | simp (disch := first | omega | (simp only [lnv]; omega)) only [wlk, mwk, ↓get_put', ↓reduceIte, seval, sqs_m, sqs_r, sqs_e, or_ptr, h2_ptr10]
   | (with_reducible (first | apply cd_split | apply gd_split)) <;> (intro hc; (try simp only [hcn] at hc); (try simp only [hc]); (try simp only [hcl] at hc); try omega))
 refine CL.mk (one_put o5 (k := [89]) (b := []) (by simp) (by simp) (by simp) hf5) ?_
 rintro y h6 ⟨hy, P6, o6, g6⟩
 have hy : y = .i .i64 10 := hy.trans (by kernel_rfl)
 subst hy
 have hf6 := g6.1.fl hf5
 have o6 := o6.eq (D' := ⟨[([120], [97, 98, 99, 100]), ([121], [113])], [([120], [97, 98])], [⟨2, [120], [99, 100]⟩, ⟨1, [121], [113]⟩], 20⟩) (by kernel_rfl)
 clear g6 o5
 repeat' (first
   | refine St.h ?_
   | simp (disch := first | omega | (simp only [lnv]; omega)) only [wlk, mwk, ↓get_put', ↓reduceIte, seval, sqs_m, sqs_r, sqs_e, or_ptr, h2_ptr10]
   | (with_reducible (first | apply cd_split | apply gd_split)) <;> (intro hc; (try simp only [hcn] at hc); (try simp only [hc]); (try simp only [hcl] at hc); try omega))
 refine CL.mk (one_add o6 (k := [122]) (b := []) (by simp) (by simp) hf6) ?_
 rintro y h7 ⟨hy, P7, o7, g7⟩
 have hy : y = .i .i64 14 := hy.trans (by kernel_rfl)
 subst hy
 have hf7 := g7.1.fl hf6
 have o7 := o7.eq (D' := ⟨[([120], [97, 98, 99, 100]), ([121], [113])], [([120], [97, 98])], [⟨2, [120], [99, 100]⟩, ⟨1, [121], [113]⟩], 20⟩) (by kernel_rfl)
 clear g7 o6
 repeat' (first
   | refine St.h ?_
   | simp (disch := first | omega | (simp only [lnv]; omega)) only [wlk, mwk, ↓get_put', ↓reduceIte, seval, sqs_m, sqs_r, sqs_e, or_ptr, h2_ptr10]
   | (with_reducible (first | apply cd_split | apply gd_split)) <;> (intro hc; (try simp only [hcn] at hc); (try simp only [hc]); (try simp only [hcl] at hc); try omega))
 refine CL.mk (one_put o7 (k := [119]) (b := [48, 49, 50, 51, 52, 53, 54, 55, 56, 57, 48, 49, 50, 51, 52, 53, 54, 55, 56, 57]) (by simp) (by simp) (by simp) hf7) ?_
 rintro y h8 ⟨hy, P8, o8, g8⟩
 have hy : y = .i .i64 15 := hy.trans (by kernel_rfl)
 subst hy
 have hf8 := g8.1.fl hf7
 have o8 := o8.eq (D' := ⟨[([120], [97, 98, 99, 100]), ([121], [113])], [([120], [97, 98])], [⟨2, [120], [99, 100]⟩, ⟨1, [121], [113]⟩], 20⟩) (by kernel_rfl)
 clear g8 o7
 repeat' (first
   | refine St.h ?_
   | simp (disch := first | omega | (simp only [lnv]; omega)) only [wlk, mwk, ↓get_put', ↓reduceIte, seval, sqs_m, sqs_r, sqs_e, or_ptr, h2_ptr10]
   | (with_reducible (first | apply cd_split | apply gd_split)) <;> (intro hc; (try simp only [hcn] at hc); (try simp only [hc]); (try simp only [hcl] at hc); try omega))
 refine CL.pure ((one_loose o8 (by simp)).y (e' := .i .i64 2) (by kernel_rfl)) ?_
 repeat' (first
   | refine St.h ?_
   | simp (disch := first | omega | (simp only [lnv]; omega)) only [wlk, mwk, ↓get_put', ↓reduceIte, seval, sqs_m, sqs_r, sqs_e, or_ptr, h2_ptr10]
   | (with_reducible (first | apply cd_split | apply gd_split)) <;> (intro hc; (try simp only [hcn] at hc); (try simp only [hc]); (try simp only [hcl] at hc); try omega))
 refine OkS.cn (wo_gen fun K hK => ?_)
 dsimp only [c12_0]
 repeat' (first
   | refine St.h ?_
   | simp (disch := first | omega | (simp only [lnv]; omega)) only [wlk, mwk, ↓get_put', ↓reduceIte, seval]
   | (with_reducible (first | apply cd_split | apply gd_split)) <;> (intro hc; (try simp only [hcn] at hc); (try simp only [hc]); (try simp only [hcl] at hc); try omega))
 subst hK
 refine ⟨_, _, one_copy o8 (by simp) hf8, by simp (disch := first | omega | (simp only [lnv]; omega)) only [wlk, mwk, ↓get_put', ↓reduceIte, seval], ?_⟩
 rintro y h9 ⟨st, t, T9, rfl, ot, hT⟩
 have hf9 := st.fl hf8
 have o9 := o8.grow st
 have hlt : ∀ q, P8 q → ¬ T9 q := fun q h1 h2 => by have := hT q h2; have := o8.lt h1; omega
 clear o8
 repeat' (first
   | refine St.h ?_
   | simp (disch := first | omega | (simp only [lnv]; omega)) only [wlk, mwk, ↓get_put', ↓reduceIte, seval, sqs_m, sqs_r, sqs_e]
   | (with_reducible (first | apply cd_split | apply gd_split)) <;> (intro hc; (try simp only [hcn] at hc); (try simp only [hc]); (try simp only [hcl] at hc); try omega))
 refine CL.mk (one_crash o9 (n := 0) (m := 1) (by simp) hf9) ?_
 rintro y h10 ⟨rfl, P10, o10, g10⟩
 have hf10 := g10.1.fl hf9
 have ot10 := ot.stay g10.1 fun q h1 h2 => hlt q h2 h1
 have hl10 := g10.keep hlt fun q h => ot.lt h
 have o10 := o10.eq (D' := ⟨[([120], [97, 98, 99])], [([120], [97, 98, 99])], [], 20⟩) (by kernel_rfl)
 clear o9 ot hlt g10
 repeat' (first
   | refine St.h ?_
   | simp (disch := first | omega | (simp only [lnv]; omega)) only [wlk, mwk, ↓get_put', ↓reduceIte, seval, sqs_m, sqs_r, sqs_e]
   | (with_reducible (first | apply cd_split | apply gd_split)) <;> (intro hc; (try simp only [hcn] at hc); (try simp only [hc]); (try simp only [hcl] at hc); try omega))
 refine CL.pure ((one_get o10 (k := [120])).y (e' := .tu [sv [97, 98, 99], .i .i64 0]) (by kernel_rfl)) ?_
 repeat' (first
   | refine St.h ?_
   | simp (disch := first | omega | (simp only [lnv]; omega)) only [wlk, mwk, ↓get_put', ↓reduceIte, seval, sqs_m, sqs_r, sqs_e]
   | (with_reducible (first | apply cd_split | apply gd_split)) <;> (intro hc; (try simp only [hcn] at hc); (try simp only [hc]); (try simp only [hcl] at hc); try omega))
 refine CL.mk (one_crash ot10 (n := 9) (m := 9) (by simp) hf10) ?_
 rintro y h11 ⟨rfl, T11, ot11, g11⟩
 have hf11 := g11.1.fl hf10
 have o11 := o10.stay g11.1 fun q h1 h2 => hl10 q h1 h2
 have ot11 := ot11.eq (D' := ⟨[([120], [97, 98, 99, 100]), ([121], [113])], [([120], [97, 98, 99, 100]), ([121], [113])], [], 20⟩) (by kernel_rfl)
 have hl11 := g11.keep (fun q h1 h2 => hl10 q h2 h1) fun q h => o10.lt h
 clear o10 ot10 g11
 have e3 : V.s 3 6382179 = sv [97, 98, 99] := by kernel_rfl
 repeat' (first
   | refine St.h ?_
   | simp (disch := first | omega | (simp only [lnv]; omega)) only [wlk, mwk, ↓get_put', ↓reduceIte, seval, sqs_m, sqs_r, sqs_e, e3]
   | (with_reducible (first | apply cd_split | apply gd_split)) <;> (intro hc; (try simp only [hcn] at hc); (try simp only [hc]); (try simp only [hcl] at hc); try omega))
 refine CL.mk (one_names o11 hf11) ?_
 rintro y h12 ⟨hn, st, _⟩
 have hn : Ss 1 kC h12 y [[120]] := hn
 have l1 : (([[120]] : List (List UInt8)).length : Int) = 1 := rfl
 have l2 : (([[120], [121]] : List (List UInt8)).length : Int) = 2 := rfl
 have hf12 := st.fl hf11
 have o12 := o11.grow st
 have ot12 := ot11.grow st
 clear o11 ot11 st
 repeat' (first
   | refine St.h ?_
   | simp (disch := first | omega | (simp only [lnv]; omega)) only [wlk, mwk, ↓get_put', ↓reduceIte, seval, sqs_m, sqs_r, sqs_e, e3, hn.ln, l1]
   | (with_reducible (first | apply cd_split | apply gd_split)) <;> (intro hc; (try simp only [hcn] at hc); (try simp only [hc]); (try simp only [hcl] at hc); try omega))
 refine CL.mk (one_names ot12 hf12) ?_
 rintro y h13 ⟨hn, st, _⟩
 have hn : Ss 1 kC h13 y [[120], [121]] := hn
 have hf13 := st.fl hf12
 have o13 := o12.grow st
 clear o12 ot12 st
 repeat' (first
   | refine St.h ?_
   | simp (disch := first | omega | (simp only [lnv]; omega)) only [wlk, mwk, ↓get_put', ↓reduceIte, seval, sqs_m, sqs_r, sqs_e, hn.ln, l2]
   | (with_reducible (first | apply cd_split | apply gd_split)) <;> (intro hc; (try simp only [hcn] at hc); (try simp only [hc]); (try simp only [hcl] at hc); try omega))
 refine CL.pure ((one_used o13).y (e' := .i .i64 3) (by kernel_rfl)) ?_
 repeat' (first
   | refine St.h ?_
   | simp (disch := first | omega | (simp only [lnv]; omega)) only [wlk, mwk, ↓get_put', ↓reduceIte, seval, sqs_m, sqs_r, sqs_e]
   | (with_reducible (first | apply cd_split | apply gd_split)) <;> (intro hc; (try simp only [hcn] at hc); (try simp only [hc]); (try simp only [hcl] at hc); try omega))
 refine CL.pure ((one_left o13).y (e' := .i .i64 17) (by kernel_rfl)) ?_
 repeat' (first
   | refine St.h ?_
   | simp (disch := first | omega | (simp only [lnv]; omega)) only [wlk, mwk, ↓get_put', ↓reduceIte, seval, sqs_m, sqs_r, sqs_e]
   | (with_reducible (first | apply cd_split | apply gd_split)) <;> (intro hc; (try simp only [hcn] at hc); (try simp only [hc]); (try simp only [hcl] at hc); try omega))
 refine CL.pure ((one_loose o13 (by simp)).y (e' := .i .i64 0) (by kernel_rfl)) ?_
 repeat' (first
   | refine St.h ?_
   | simp (disch := first | omega | (simp only [lnv]; omega)) only [wlk, mwk, ↓get_put', ↓reduceIte, seval, sqs_m, sqs_r, sqs_e]
   | (with_reducible (first | apply cd_split | apply gd_split)) <;> (intro hc; (try simp only [hcn] at hc); (try simp only [hc]); (try simp only [hcl] at hc); try omega))
 refine CL.mk (one_swap o13 (o := [120]) (k := [118]) (by simp) (by simp) hf13) ?_
 rintro y h14 ⟨hy, P14, o14, g14⟩
 have hy : y = .i .i64 0 := hy.trans (by kernel_rfl)
 subst hy
 have hf14 := g14.1.fl hf13
 have o14 := o14.eq (D' := ⟨[([118], [97, 98, 99])], [([120], [97, 98, 99])], [⟨3, [120], [118]⟩], 20⟩) (by kernel_rfl)
 clear o13
 repeat' (first
   | refine St.h ?_
   | simp (disch := first | omega | (simp only [lnv]; omega)) only [wlk, mwk, ↓get_put', ↓reduceIte, seval, sqs_m, sqs_r, sqs_e]
   | (with_reducible (first | apply cd_split | apply gd_split)) <;> (intro hc; (try simp only [hcn] at hc); (try simp only [hc]); (try simp only [hcl] at hc); try omega))
 refine CL.mk (one_drop o14 (k := [118]) (by simp) hf14) ?_
 rintro y h15 ⟨hy, P15, o15, g15⟩
 have hy : y = .i .i64 0 := hy.trans (by kernel_rfl)
 subst hy
 clear o15
 repeat' (first
   | refine St.h ?_
   | simp (disch := first | omega | (simp only [lnv]; omega)) only [wlk, mwk, ↓get_put', ↓reduceIte, seval, sqs_m, sqs_r, sqs_e]
   | (with_reducible (first | apply cd_split | apply gd_split)) <;> (intro hc; (try simp only [hcn] at hc); (try simp only [hc]); (try simp only [hcl] at hc); try omega))
 subst hQ
 rfl
theorem known5 : FnOk Try.prog 12 [] h fun y h' => y = .b true ∧ h' = h :=
 FnN.pure (known_n (by rw [reFloor_floor, reFloor_next]; exact Nat.le_refl _)) fun ρ ρ' x hx => hx
end
end Go.Proofs.Ytjlhfoadabkahaa

set_option maxRecDepth 100000
set_option maxHeartbeats 8000000
set_option linter.all false
namespace Go.Proofs.Ytjlhfoadabkahaa
open Go Go.Ev
theorem run_call {P : Program} {f : FuncId} {vs : List V} {t : F} {h : H} {Q : V → H → Prop} {args : List O} (a : FnOk P f vs h Q) (e : args.map (fun o => oV o t) = vs) : ∃ v h', RunRel P (.mk (doCall f args)) t h v h' ∧ Q v h' := by
 have : OR P (doCall f args) t h (.w 0 [] F.zero fun t' h' => Q (get 0 t') h') := by
   rw [or_call, e]
   exact ⟨Q, a, fun v h' q => by rw [go_w, wo_nil, get_put', if_pos rfl]; exact q⟩
 obtain ⟨v, h', rr, k⟩ := this
 rw [go_w, wo_nil, get_put', if_pos rfl] at k
 exact ⟨v, h', rr, k⟩
section
variable {T : F} {g : H} {K : Ev.X → F → H → Prop} {s r bx : B} {w n m : Int} {k1 k2 b : List UInt8} {QA : V → H → Prop}
theorem dw_put (e5 : get 5 T = .p s 0 0 3) (e6 : get 6 T = .p r 0 0 4) (e10 : get 10 T = .p bx 0 0 6) (o : Row g bx 0 0 [.i .i64 w, .i .i64 n, .i .i64 m, sv k1, sv k2, sv b]) (hA : FnOk Try.prog 16 [.p s 0 0 3, sv k1, sv b] g QA)
   (hB : ∀ y1 g2, QA y1 g2 → Row g2 bx 0 0 [.i .i64 w, .i .i64 n, .i .i64 m, sv k1, sv k2, sv b] ∧ ∃ QB, FnOk Try.prog 17 [.p r 0 0 4, sv k1, sv b] g2 QB ∧ ∀ y2 g3, QB y2 g3 → ∀ U, get 1 U = get 1 T → get 5 U = get 5 T → get 6 U = get 6 T → get 7 U = get 7 T → get 8 U = y1 → get 9 U = y2 → K .normal U g3) :
   DW Try.prog 177 [uB 46 (doMove (tm 5)), uB 47 (doFieldAddr 3 (tm 10)), uB 48 (doLoad (tm 47)), uB 49 (doFieldAddr 5 (tm 10)), uB 50 (doLoad (tm 49)), uB 51 (doCall 16 [tm 46, tm 48, tm 50]), uB 52 (doMove (tm 6)), uB 53 (doFieldAddr 3 (tm 10)), uB 54 (doLoad (tm 53)), uB 55 (doFieldAddr 5 (tm 10)), uB 56 (doLoad (tm 55)), wB 57 (doCall 17 [tm 52, tm 54, tm 56]), uB 8 (doMove (tm 51)), uB 9 (doMove (tm 57))] T g K := by
 have q1 : ∀ x, x ∈ [1, 5, 6, 7, 10] → get x (put 50 (sv b) (put 49 (.p bx 0 5 6) (put 48 (sv k1) (put 47 (.p bx 0 3 6) (put 46 (.p s 0 0 3) T))))) = get x T := by intro x hx; simp at hx; rcases hx with rfl | rfl | rfl | rfl | rfl <;> simp (disch := first | omega | (simp only [lnv]; omega)) only [wlk, mwk, ↓get_put', ↓reduceIte, seval]
 have a1 : [tm 46, tm 48, tm 50].map (fun o => oV o (put 50 (sv b) (put 49 (.p bx 0 5 6) (put 48 (sv k1) (put 47 (.p bx 0 3 6) (put 46 (.p s 0 0 3) T)))))) = [.p s 0 0 3, sv k1, sv b] := by simp (disch := first | omega | (simp only [lnv]; omega)) only [wlk, mwk, ↓get_put', ↓reduceIte, seval]
 obtain ⟨y1, g2, r1, p1⟩ := run_call hA a1
 obtain ⟨o2, QB, hB2, fin⟩ := hB y1 g2 p1
 have x6 : get 6 (put 51 y1 (put 50 (sv b) (put 49 (.p bx 0 5 6) (put 48 (sv k1) (put 47 (.p bx 0 3 6) (put 46 (.p s 0 0 3) T)))))) = .p r 0 0 4 := by simp (disch := first | omega | (simp only [lnv]; omega)) only [wlk, mwk, ↓get_put', ↓reduceIte, seval, e6]
 have x10 : get 10 (put 51 y1 (put 50 (sv b) (put 49 (.p bx 0 5 6) (put 48 (sv k1) (put 47 (.p bx 0 3 6) (put 46 (.p s 0 0 3) T)))))) = .p bx 0 0 6 := by simp (disch := first | omega | (simp only [lnv]; omega)) only [wlk, mwk, ↓get_put', ↓reduceIte, seval, e10]
 have x1 : get 1 (put 51 y1 (put 50 (sv b) (put 49 (.p bx 0 5 6) (put 48 (sv k1) (put 47 (.p bx 0 3 6) (put 46 (.p s 0 0 3) T)))))) = get 1 T := by simp (disch := first | omega | (simp only [lnv]; omega)) only [wlk, mwk, ↓get_put', ↓reduceIte, seval]
 have x5 : get 5 (put 51 y1 (put 50 (sv b) (put 49 (.p bx 0 5 6) (put 48 (sv k1) (put 47 (.p bx 0 3 6) (put 46 (.p s 0 0 3) T)))))) = get 5 T := by simp (disch := first | omega | (simp only [lnv]; omega)) only [wlk, mwk, ↓get_put', ↓reduceIte, seval]
 have x7 : get 7 (put 51 y1 (put 50 (sv b) (put 49 (.p bx 0 5 6) (put 48 (sv k1) (put 47 (.p bx 0 3 6) (put 46 (.p s 0 0 3) T)))))) = get 7 T := by simp (disch := first | omega | (simp only [lnv]; omega)) only [wlk, mwk, ↓get_put', ↓reduceIte, seval]
 have xc : get 51 (put 51 y1 (put 50 (sv b) (put 49 (.p bx 0 5 6) (put 48 (sv k1) (put 47 (.p bx 0 3 6) (put 46 (.p s 0 0 3) T)))))) = y1 := by simp (disch := first | omega | (simp only [lnv]; omega)) only [wlk, mwk, ↓get_put', ↓reduceIte, seval]
 obtain ⟨T2, hT2⟩ : ∃ T2, T2 = put 51 y1 (put 50 (sv b) (put 49 (.p bx 0 5 6) (put 48 (sv k1) (put 47 (.p bx 0 3 6) (put 46 (.p s 0 0 3) T))))) := ⟨_, rfl⟩
 rw [← hT2] at x6 x10 x1 x5 x7 xc
 have a2 : [tm 52, tm 54, tm 56].map (fun o => oV o (put 56 (sv b) (put 55 (.p bx 0 5 6) (put 54 (sv k1) (put 53 (.p bx 0 3 6) (put 52 (.p r 0 0 4) T2)))))) = [.p r 0 0 4, sv k1, sv b] := by simp (disch := first | omega | (simp only [lnv]; omega)) only [wlk, mwk, ↓get_put', ↓reduceIte, seval]
 obtain ⟨y2, g3, r2, p2⟩ := run_call hB2 a2
 refine DW.gen (pre := [uB 46 (doMove (tm 5)), uB 47 (doFieldAddr 3 (tm 10)), uB 48 (doLoad (tm 47)), uB 49 (doFieldAddr 5 (tm 10)), uB 50 (doLoad (tm 49))]) (mid := [uB 52 (doMove (tm 6)), uB 53 (doFieldAddr 3 (tm 10)), uB 54 (doLoad (tm 53)), uB 55 (doFieldAddr 5 (tm 10)), uB 56 (doLoad (tm 55))]) (rest := [uB 8 (doMove (tm 51)), uB 9 (doMove (tm 57))]) (A := uB 51 (doCall 16 [tm 46, tm 48, tm 50])) (g := .none) (d := .some (slOf 57)) (t2 := T2) (h := g) (h2 := g2) (h3 := g3) hmix rfl ?_ (by rw [hT2]; exact opRel_u 51 _ r1) ?_ (opRel_c r2) (t5 := put 9 y2 (put 8 y1 (put 57 y2 (put 56 (sv b) (put 55 (.p bx 0 5 6) (put 54 (sv k1) (put 53 (.p bx 0 3 6) (put 52 (.p r 0 0 4) T2)))))))) ?_ ?_
 · refine ops2_u 46 _ (.p s 0 0 3) (rv_of (by simp (disch := first | omega | (simp only [lnv]; omega)) only [wlk, mwk, ↓get_put', ↓reduceIte, seval, e5, e10])) (rv_of (by simp (disch := first | omega | (simp only [lnv]; omega)) only [wlk, mwk, ↓get_put', ↓reduceIte, seval, e5, e10])) ?_
   refine ops2_u 47 _ (.p bx 0 3 6) (rv_of (by simp (disch := first | omega | (simp only [lnv]; omega)) only [wlk, mwk, ↓get_put', ↓reduceIte, seval, e5, e10])) (rv_of (by simp (disch := first | omega | (simp only [lnv]; omega)) only [wlk, mwk, ↓get_put', ↓reduceIte, seval, e5, e10])) ?_
   refine ops2_u 48 _ (sv k1) (rv_of (by simp (disch := first | omega | (simp only [lnv]; omega)) only [wlk, mwk, ↓get_put', ↓reduceIte, seval, o.l1])) (rv_of (by simp (disch := first | omega | (simp only [lnv]; omega)) only [wlk, mwk, ↓get_put', ↓reduceIte, seval, o2.l1])) ?_
   refine ops2_u 49 _ (.p bx 0 5 6) (rv_of (by simp (disch := first | omega | (simp only [lnv]; omega)) only [wlk, mwk, ↓get_put', ↓reduceIte, seval, e5, e10])) (rv_of (by simp (disch := first | omega | (simp only [lnv]; omega)) only [wlk, mwk, ↓get_put', ↓reduceIte, seval, e5, e10])) ?_
   refine ops2_u 50 _ (sv b) (rv_of (by simp (disch := first | omega | (simp only [lnv]; omega)) only [wlk, mwk, ↓get_put', ↓reduceIte, seval, o.l1])) (rv_of (by simp (disch := first | omega | (simp only [lnv]; omega)) only [wlk, mwk, ↓get_put', ↓reduceIte, seval, o2.l1])) ?_
   exact ops2_n
 · refine ops2_u 52 _ (.p r 0 0 4) (rv_of (by simp (disch := first | omega | (simp only [lnv]; omega)) only [wlk, mwk, ↓get_put', ↓reduceIte, seval, x6, x10])) (rv_of (by simp (disch := first | omega | (simp only [lnv]; omega)) only [wlk, mwk, ↓get_put', ↓reduceIte, seval, x6, x10])) ?_
   refine ops2_u 53 _ (.p bx 0 3 6) (rv_of (by simp (disch := first | omega | (simp only [lnv]; omega)) only [wlk, mwk, ↓get_put', ↓reduceIte, seval, x6, x10])) (rv_of (by simp (disch := first | omega | (simp only [lnv]; omega)) only [wlk, mwk, ↓get_put', ↓reduceIte, seval, x6, x10])) ?_
   refine ops2_u 54 _ (sv k1) (rv_of (by simp (disch := first | omega | (simp only [lnv]; omega)) only [wlk, mwk, ↓get_put', ↓reduceIte, seval, o.l1])) (rv_of (by simp (disch := first | omega | (simp only [lnv]; omega)) only [wlk, mwk, ↓get_put', ↓reduceIte, seval, o2.l1])) ?_
   refine ops2_u 55 _ (.p bx 0 5 6) (rv_of (by simp (disch := first | omega | (simp only [lnv]; omega)) only [wlk, mwk, ↓get_put', ↓reduceIte, seval, x6, x10])) (rv_of (by simp (disch := first | omega | (simp only [lnv]; omega)) only [wlk, mwk, ↓get_put', ↓reduceIte, seval, x6, x10])) ?_
   refine ops2_u 56 _ (sv b) (rv_of (by simp (disch := first | omega | (simp only [lnv]; omega)) only [wlk, mwk, ↓get_put', ↓reduceIte, seval, o.l1])) (rv_of (by simp (disch := first | omega | (simp only [lnv]; omega)) only [wlk, mwk, ↓get_put', ↓reduceIte, seval, o2.l1])) ?_
   exact ops2_n
 · refine ops2_u 8 _ y1 (rv_of (by simp (disch := first | omega | (simp only [lnv]; omega)) only [wlk, mwk, ↓get_put', ↓reduceIte, seval, xc])) (rv_of (by simp (disch := first | omega | (simp only [lnv]; omega)) only [wlk, mwk, ↓get_put', ↓reduceIte, seval, xc])) ?_
   refine ops2_u 9 _ y2 (rv_of (by simp (disch := first | omega | (simp only [lnv]; omega)) only [wlk, mwk, ↓get_put', ↓reduceIte, seval])) (rv_of (by simp (disch := first | omega | (simp only [lnv]; omega)) only [wlk, mwk, ↓get_put', ↓reduceIte, seval])) ?_
   exact ops2_n
 · exact fin y2 g3 p2 _ (by simp (disch := first | omega | (simp only [lnv]; omega)) only [wlk, mwk, ↓get_put', ↓reduceIte, seval, x1]) (by simp (disch := first | omega | (simp only [lnv]; omega)) only [wlk, mwk, ↓get_put', ↓reduceIte, seval, x5]) (by simp (disch := first | omega | (simp only [lnv]; omega)) only [wlk, mwk, ↓get_put', ↓reduceIte, seval, x6, e6]) (by simp (disch := first | omega | (simp only [lnv]; omega)) only [wlk, mwk, ↓get_put', ↓reduceIte, seval, x7]) (by simp (disch := first | omega | (simp only [lnv]; omega)) only [wlk, mwk, ↓get_put', ↓reduceIte, seval]) (by simp (disch := first | omega | (simp only [lnv]; omega)) only [wlk, mwk, ↓get_put', ↓reduceIte, seval])
theorem dw_add (e5 : get 5 T = .p s 0 0 3) (e6 : get 6 T = .p r 0 0 4) (e10 : get 10 T = .p bx 0 0 6) (o : Row g bx 0 0 [.i .i64 w, .i .i64 n, .i .i64 m, sv k1, sv k2, sv b]) (hA : FnOk Try.prog 18 [.p s 0 0 3, sv k1, sv b] g QA)
   (hB : ∀ y1 g2, QA y1 g2 → Row g2 bx 0 0 [.i .i64 w, .i .i64 n, .i .i64 m, sv k1, sv k2, sv b] ∧ ∃ QB, FnOk Try.prog 19 [.p r 0 0 4, sv k1, sv b] g2 QB ∧ ∀ y2 g3, QB y2 g3 → ∀ U, get 1 U = get 1 T → get 5 U = get 5 T → get 6 U = get 6 T → get 7 U = get 7 T → get 8 U = y1 → get 9 U = y2 → K .normal U g3) :
   DW Try.prog 177 [uB 62 (doMove (tm 5)), uB 63 (doFieldAddr 3 (tm 10)), uB 64 (doLoad (tm 63)), uB 65 (doFieldAddr 5 (tm 10)), uB 66 (doLoad (tm 65)), uB 67 (doCall 18 [tm 62, tm 64, tm 66]), uB 68 (doMove (tm 6)), uB 69 (doFieldAddr 3 (tm 10)), uB 70 (doLoad (tm 69)), uB 71 (doFieldAddr 5 (tm 10)), uB 72 (doLoad (tm 71)), wB 73 (doCall 19 [tm 68, tm 70, tm 72]), uB 8 (doMove (tm 67)), uB 9 (doMove (tm 73))] T g K := by
 have q1 : ∀ x, x ∈ [1, 5, 6, 7, 10] → get x (put 66 (sv b) (put 65 (.p bx 0 5 6) (put 64 (sv k1) (put 63 (.p bx 0 3 6) (put 62 (.p s 0 0 3) T))))) = get x T := by intro x hx; simp at hx; rcases hx with rfl | rfl | rfl | rfl | rfl <;> simp (disch := first | omega | (simp only [lnv]; omega)) only [wlk, mwk, ↓get_put', ↓reduceIte, seval]
 have a1 : [tm 62, tm 64, tm 66].map (fun o => oV o (put 66 (sv b) (put 65 (.p bx 0 5 6) (put 64 (sv k1) (put 63 (.p bx 0 3 6) (put 62 (.p s 0 0 3) T)))))) = [.p s 0 0 3, sv k1, sv b] := by simp (disch := first | omega | (simp only [lnv]; omega)) only [wlk, mwk, ↓get_put', ↓reduceIte, seval]
 obtain ⟨y1, g2, r1, p1⟩ := run_call hA a1
 obtain ⟨o2, QB, hB2, fin⟩ := hB y1 g2 p1
 have x6 : get 6 (put 67 y1 (put 66 (sv b) (put 65 (.p bx 0 5 6) (put 64 (sv k1) (put 63 (.p bx 0 3 6) (put 62 (.p s 0 0 3) T)))))) = .p r 0 0 4 := by simp (disch := first | omega | (simp only [lnv]; omega)) only [wlk, mwk, ↓get_put', ↓reduceIte, seval, e6]
 have x10 : get 10 (put 67 y1 (put 66 (sv b) (put 65 (.p bx 0 5 6) (put 64 (sv k1) (put 63 (.p bx 0 3 6) (put 62 (.p s 0 0 3) T)))))) = .p bx 0 0 6 := by simp (disch := first | omega | (simp only [lnv]; omega)) only [wlk, mwk, ↓get_put', ↓reduceIte, seval, e10]
 have x1 : get 1 (put 67 y1 (put 66 (sv b) (put 65 (.p bx 0 5 6) (put 64 (sv k1) (put 63 (.p bx 0 3 6) (put 62 (.p s 0 0 3) T)))))) = get 1 T := by simp (disch := first | omega | (simp only [lnv]; omega)) only [wlk, mwk, ↓get_put', ↓reduceIte, seval]
 have x5 : get 5 (put 67 y1 (put 66 (sv b) (put 65 (.p bx 0 5 6) (put 64 (sv k1) (put 63 (.p bx 0 3 6) (put 62 (.p s 0 0 3) T)))))) = get 5 T := by simp (disch := first | omega | (simp only [lnv]; omega)) only [wlk, mwk, ↓get_put', ↓reduceIte, seval]
 have x7 : get 7 (put 67 y1 (put 66 (sv b) (put 65 (.p bx 0 5 6) (put 64 (sv k1) (put 63 (.p bx 0 3 6) (put 62 (.p s 0 0 3) T)))))) = get 7 T := by simp (disch := first | omega | (simp only [lnv]; omega)) only [wlk, mwk, ↓get_put', ↓reduceIte, seval]
 have xc : get 67 (put 67 y1 (put 66 (sv b) (put 65 (.p bx 0 5 6) (put 64 (sv k1) (put 63 (.p bx 0 3 6) (put 62 (.p s 0 0 3) T)))))) = y1 := by simp (disch := first | omega | (simp only [lnv]; omega)) only [wlk, mwk, ↓get_put', ↓reduceIte, seval]
 obtain ⟨T2, hT2⟩ : ∃ T2, T2 = put 67 y1 (put 66 (sv b) (put 65 (.p bx 0 5 6) (put 64 (sv k1) (put 63 (.p bx 0 3 6) (put 62 (.p s 0 0 3) T))))) := ⟨_, rfl⟩
 rw [← hT2] at x6 x10 x1 x5 x7 xc
 have a2 : [tm 68, tm 70, tm 72].map (fun o => oV o (put 72 (sv b) (put 71 (.p bx 0 5 6) (put 70 (sv k1) (put 69 (.p bx 0 3 6) (put 68 (.p r 0 0 4) T2)))))) = [.p r 0 0 4, sv k1, sv b] := by simp (disch := first | omega | (simp only [lnv]; omega)) only [wlk, mwk, ↓get_put', ↓reduceIte, seval]
 obtain ⟨y2, g3, r2, p2⟩ := run_call hB2 a2
 refine DW.gen (pre := [uB 62 (doMove (tm 5)), uB 63 (doFieldAddr 3 (tm 10)), uB 64 (doLoad (tm 63)), uB 65 (doFieldAddr 5 (tm 10)), uB 66 (doLoad (tm 65))]) (mid := [uB 68 (doMove (tm 6)), uB 69 (doFieldAddr 3 (tm 10)), uB 70 (doLoad (tm 69)), uB 71 (doFieldAddr 5 (tm 10)), uB 72 (doLoad (tm 71))]) (rest := [uB 8 (doMove (tm 67)), uB 9 (doMove (tm 73))]) (A := uB 67 (doCall 18 [tm 62, tm 64, tm 66])) (g := .none) (d := .some (slOf 73)) (t2 := T2) (h := g) (h2 := g2) (h3 := g3) hmix rfl ?_ (by rw [hT2]; exact opRel_u 67 _ r1) ?_ (opRel_c r2) (t5 := put 9 y2 (put 8 y1 (put 73 y2 (put 72 (sv b) (put 71 (.p bx 0 5 6) (put 70 (sv k1) (put 69 (.p bx 0 3 6) (put 68 (.p r 0 0 4) T2)))))))) ?_ ?_
 · refine ops2_u 62 _ (.p s 0 0 3) (rv_of (by simp (disch := first | omega | (simp only [lnv]; omega)) only [wlk, mwk, ↓get_put', ↓reduceIte, seval, e5, e10])) (rv_of (by simp (disch := first | omega | (simp only [lnv]; omega)) only [wlk, mwk, ↓get_put', ↓reduceIte, seval, e5, e10])) ?_
   refine ops2_u 63 _ (.p bx 0 3 6) (rv_of (by simp (disch := first | omega | (simp only [lnv]; omega)) only [wlk, mwk, ↓get_put', ↓reduceIte, seval, e5, e10])) (rv_of (by simp (disch := first | omega | (simp only [lnv]; omega)) only [wlk, mwk, ↓get_put', ↓reduceIte, seval, e5, e10])) ?_
   refine ops2_u 64 _ (sv k1) (rv_of (by simp (disch := first | omega | (simp only [lnv]; omega)) only [wlk, mwk, ↓get_put', ↓reduceIte, seval, o.l1])) (rv_of (by simp (disch := first | omega | (simp only [lnv]; omega)) only [wlk, mwk, ↓get_put', ↓reduceIte, seval, o2.l1])) ?_
   refine ops2_u 65 _ (.p bx 0 5 6) (rv_of (by simp (disch := first | omega | (simp only [lnv]; omega)) only [wlk, mwk, ↓get_put', ↓reduceIte, seval, e5, e10])) (rv_of (by simp (disch := first | omega | (simp only [lnv]; omega)) only [wlk, mwk, ↓get_put', ↓reduceIte, seval, e5, e10])) ?_
   refine ops2_u 66 _ (sv b) (rv_of (by simp (disch := first | omega | (simp only [lnv]; omega)) only [wlk, mwk, ↓get_put', ↓reduceIte, seval, o.l1])) (rv_of (by simp (disch := first | omega | (simp only [lnv]; omega)) only [wlk, mwk, ↓get_put', ↓reduceIte, seval, o2.l1])) ?_
   exact ops2_n
 · refine ops2_u 68 _ (.p r 0 0 4) (rv_of (by simp (disch := first | omega | (simp only [lnv]; omega)) only [wlk, mwk, ↓get_put', ↓reduceIte, seval, x6, x10])) (rv_of (by simp (disch := first | omega | (simp only [lnv]; omega)) only [wlk, mwk, ↓get_put', ↓reduceIte, seval, x6, x10])) ?_
   refine ops2_u 69 _ (.p bx 0 3 6) (rv_of (by simp (disch := first | omega | (simp only [lnv]; omega)) only [wlk, mwk, ↓get_put', ↓reduceIte, seval, x6, x10])) (rv_of (by simp (disch := first | omega | (simp only [lnv]; omega)) only [wlk, mwk, ↓get_put', ↓reduceIte, seval, x6, x10])) ?_
   refine ops2_u 70 _ (sv k1) (rv_of (by simp (disch := first | omega | (simp only [lnv]; omega)) only [wlk, mwk, ↓get_put', ↓reduceIte, seval, o.l1])) (rv_of (by simp (disch := first | omega | (simp only [lnv]; omega)) only [wlk, mwk, ↓get_put', ↓reduceIte, seval, o2.l1])) ?_
   refine ops2_u 71 _ (.p bx 0 5 6) (rv_of (by simp (disch := first | omega | (simp only [lnv]; omega)) only [wlk, mwk, ↓get_put', ↓reduceIte, seval, x6, x10])) (rv_of (by simp (disch := first | omega | (simp only [lnv]; omega)) only [wlk, mwk, ↓get_put', ↓reduceIte, seval, x6, x10])) ?_
   refine ops2_u 72 _ (sv b) (rv_of (by simp (disch := first | omega | (simp only [lnv]; omega)) only [wlk, mwk, ↓get_put', ↓reduceIte, seval, o.l1])) (rv_of (by simp (disch := first | omega | (simp only [lnv]; omega)) only [wlk, mwk, ↓get_put', ↓reduceIte, seval, o2.l1])) ?_
   exact ops2_n
 · refine ops2_u 8 _ y1 (rv_of (by simp (disch := first | omega | (simp only [lnv]; omega)) only [wlk, mwk, ↓get_put', ↓reduceIte, seval, xc])) (rv_of (by simp (disch := first | omega | (simp only [lnv]; omega)) only [wlk, mwk, ↓get_put', ↓reduceIte, seval, xc])) ?_
   refine ops2_u 9 _ y2 (rv_of (by simp (disch := first | omega | (simp only [lnv]; omega)) only [wlk, mwk, ↓get_put', ↓reduceIte, seval])) (rv_of (by simp (disch := first | omega | (simp only [lnv]; omega)) only [wlk, mwk, ↓get_put', ↓reduceIte, seval])) ?_
   exact ops2_n
 · exact fin y2 g3 p2 _ (by simp (disch := first | omega | (simp only [lnv]; omega)) only [wlk, mwk, ↓get_put', ↓reduceIte, seval, x1]) (by simp (disch := first | omega | (simp only [lnv]; omega)) only [wlk, mwk, ↓get_put', ↓reduceIte, seval, x5]) (by simp (disch := first | omega | (simp only [lnv]; omega)) only [wlk, mwk, ↓get_put', ↓reduceIte, seval, x6, e6]) (by simp (disch := first | omega | (simp only [lnv]; omega)) only [wlk, mwk, ↓get_put', ↓reduceIte, seval, x7]) (by simp (disch := first | omega | (simp only [lnv]; omega)) only [wlk, mwk, ↓get_put', ↓reduceIte, seval]) (by simp (disch := first | omega | (simp only [lnv]; omega)) only [wlk, mwk, ↓get_put', ↓reduceIte, seval])
theorem dw_swap (e5 : get 5 T = .p s 0 0 3) (e6 : get 6 T = .p r 0 0 4) (e10 : get 10 T = .p bx 0 0 6) (o : Row g bx 0 0 [.i .i64 w, .i .i64 n, .i .i64 m, sv k1, sv k2, sv b]) (hA : FnOk Try.prog 20 [.p s 0 0 3, sv k1, sv k2] g QA)
   (hB : ∀ y1 g2, QA y1 g2 → Row g2 bx 0 0 [.i .i64 w, .i .i64 n, .i .i64 m, sv k1, sv k2, sv b] ∧ ∃ QB, FnOk Try.prog 21 [.p r 0 0 4, sv k1, sv k2] g2 QB ∧ ∀ y2 g3, QB y2 g3 → ∀ U, get 1 U = get 1 T → get 5 U = get 5 T → get 6 U = get 6 T → get 7 U = get 7 T → get 8 U = y1 → get 9 U = y2 → K .normal U g3) :
   DW Try.prog 177 [uB 78 (doMove (tm 5)), uB 79 (doFieldAddr 3 (tm 10)), uB 80 (doLoad (tm 79)), uB 81 (doFieldAddr 4 (tm 10)), uB 82 (doLoad (tm 81)), uB 83 (doCall 20 [tm 78, tm 80, tm 82]), uB 84 (doMove (tm 6)), uB 85 (doFieldAddr 3 (tm 10)), uB 86 (doLoad (tm 85)), uB 87 (doFieldAddr 4 (tm 10)), uB 88 (doLoad (tm 87)), wB 89 (doCall 21 [tm 84, tm 86, tm 88]), uB 8 (doMove (tm 83)), uB 9 (doMove (tm 89))] T g K := by
 have q1 : ∀ x, x ∈ [1, 5, 6, 7, 10] → get x (put 82 (sv k2) (put 81 (.p bx 0 4 6) (put 80 (sv k1) (put 79 (.p bx 0 3 6) (put 78 (.p s 0 0 3) T))))) = get x T := by intro x hx; simp at hx; rcases hx with rfl | rfl | rfl | rfl | rfl <;> simp (disch := first | omega | (simp only [lnv]; omega)) only [wlk, mwk, ↓get_put', ↓reduceIte, seval]
 have a1 : [tm 78, tm 80, tm 82].map (fun o => oV o (put 82 (sv k2) (put 81 (.p bx 0 4 6) (put 80 (sv k1) (put 79 (.p bx 0 3 6) (put 78 (.p s 0 0 3) T)))))) = [.p s 0 0 3, sv k1, sv k2] := by simp (disch := first | omega | (simp only [lnv]; omega)) only [wlk, mwk, ↓get_put', ↓reduceIte, seval]
 obtain ⟨y1, g2, r1, p1⟩ := run_call hA a1
 obtain ⟨o2, QB, hB2, fin⟩ := hB y1 g2 p1
 have x6 : get 6 (put 83 y1 (put 82 (sv k2) (put 81 (.p bx 0 4 6) (put 80 (sv k1) (put 79 (.p bx 0 3 6) (put 78 (.p s 0 0 3) T)))))) = .p r 0 0 4 := by simp (disch := first | omega | (simp only [lnv]; omega)) only [wlk, mwk, ↓get_put', ↓reduceIte, seval, e6]
 have x10 : get 10 (put 83 y1 (put 82 (sv k2) (put 81 (.p bx 0 4 6) (put 80 (sv k1) (put 79 (.p bx 0 3 6) (put 78 (.p s 0 0 3) T)))))) = .p bx 0 0 6 := by simp (disch := first | omega | (simp only [lnv]; omega)) only [wlk, mwk, ↓get_put', ↓reduceIte, seval, e10]
 have x1 : get 1 (put 83 y1 (put 82 (sv k2) (put 81 (.p bx 0 4 6) (put 80 (sv k1) (put 79 (.p bx 0 3 6) (put 78 (.p s 0 0 3) T)))))) = get 1 T := by simp (disch := first | omega | (simp only [lnv]; omega)) only [wlk, mwk, ↓get_put', ↓reduceIte, seval]
 have x5 : get 5 (put 83 y1 (put 82 (sv k2) (put 81 (.p bx 0 4 6) (put 80 (sv k1) (put 79 (.p bx 0 3 6) (put 78 (.p s 0 0 3) T)))))) = get 5 T := by simp (disch := first | omega | (simp only [lnv]; omega)) only [wlk, mwk, ↓get_put', ↓reduceIte, seval]
 have x7 : get 7 (put 83 y1 (put 82 (sv k2) (put 81 (.p bx 0 4 6) (put 80 (sv k1) (put 79 (.p bx 0 3 6) (put 78 (.p s 0 0 3) T)))))) = get 7 T := by simp (disch := first | omega | (simp only [lnv]; omega)) only [wlk, mwk, ↓get_put', ↓reduceIte, seval]
 have xc : get 83 (put 83 y1 (put 82 (sv k2) (put 81 (.p bx 0 4 6) (put 80 (sv k1) (put 79 (.p bx 0 3 6) (put 78 (.p s 0 0 3) T)))))) = y1 := by simp (disch := first | omega | (simp only [lnv]; omega)) only [wlk, mwk, ↓get_put', ↓reduceIte, seval]
 obtain ⟨T2, hT2⟩ : ∃ T2, T2 = put 83 y1 (put 82 (sv k2) (put 81 (.p bx 0 4 6) (put 80 (sv k1) (put 79 (.p bx 0 3 6) (put 78 (.p s 0 0 3) T))))) := ⟨_, rfl⟩
 rw [← hT2] at x6 x10 x1 x5 x7 xc
 have a2 : [tm 84, tm 86, tm 88].map (fun o => oV o (put 88 (sv k2) (put 87 (.p bx 0 4 6) (put 86 (sv k1) (put 85 (.p bx 0 3 6) (put 84 (.p r 0 0 4) T2)))))) = [.p r 0 0 4, sv k1, sv k2] := by simp (disch := first | omega | (simp only [lnv]; omega)) only [wlk, mwk, ↓get_put', ↓reduceIte, seval]
 obtain ⟨y2, g3, r2, p2⟩ := run_call hB2 a2
 refine DW.gen (pre := [uB 78 (doMove (tm 5)), uB 79 (doFieldAddr 3 (tm 10)), uB 80 (doLoad (tm 79)), uB 81 (doFieldAddr 4 (tm 10)), uB 82 (doLoad (tm 81))]) (mid := [uB 84 (doMove (tm 6)), uB 85 (doFieldAddr 3 (tm 10)), uB 86 (doLoad (tm 85)), uB 87 (doFieldAddr 4 (tm 10)), uB 88 (doLoad (tm 87))]) (rest := [uB 8 (doMove (tm 83)), uB 9 (doMove (tm 89))]) (A := uB 83 (doCall 20 [tm 78, tm 80, tm 82])) (g := .none) (d := .some (slOf 89)) (t2 := T2) (h := g) (h2 := g2) (h3 := g3) hmix rfl ?_ (by rw [hT2]; exact opRel_u 83 _ r1) ?_ (opRel_c r2) (t5 := put 9 y2 (put 8 y1 (put 89 y2 (put 88 (sv k2) (put 87 (.p bx 0 4 6) (put 86 (sv k1) (put 85 (.p bx 0 3 6) (put 84 (.p r 0 0 4) T2)))))))) ?_ ?_
 · refine ops2_u 78 _ (.p s 0 0 3) (rv_of (by simp (disch := first | omega | (simp only [lnv]; omega)) only [wlk, mwk, ↓get_put', ↓reduceIte, seval, e5, e10])) (rv_of (by simp (disch := first | omega | (simp only [lnv]; omega)) only [wlk, mwk, ↓get_put', ↓reduceIte, seval, e5, e10])) ?_
   refine ops2_u 79 _ (.p bx 0 3 6) (rv_of (by simp (disch := first | omega | (simp only [lnv]; omega)) only [wlk, mwk, ↓get_put', ↓reduceIte, seval, e5, e10])) (rv_of (by simp (disch := first | omega | (simp only [lnv]; omega)) only [wlk, mwk, ↓get_put', ↓reduceIte, seval, e5, e10])) ?_
   refine ops2_u 80 _ (sv k1) (rv_of (by simp (disch := first | omega | (simp only [lnv]; omega)) only [wlk, mwk, ↓get_put', ↓reduceIte, seval, o.l1])) (rv_of (by simp (disch := first | omega | (simp only [lnv]; omega)) only [wlk, mwk, ↓get_put', ↓reduceIte, seval, o2.l1])) ?_
   refine ops2_u 81 _ (.p bx 0 4 6) (rv_of (by simp (disch := first | omega | (simp only [lnv]; omega)) only [wlk, mwk, ↓get_put', ↓reduceIte, seval, e5, e10])) (rv_of (by simp (disch := first | omega | (simp only [lnv]; omega)) only [wlk, mwk, ↓get_put', ↓reduceIte, seval, e5, e10])) ?_
   refine ops2_u 82 _ (sv k2) (rv_of (by simp (disch := first | omega | (simp only [lnv]; omega)) only [wlk, mwk, ↓get_put', ↓reduceIte, seval, o.l1])) (rv_of (by simp (disch := first | omega | (simp only [lnv]; omega)) only [wlk, mwk, ↓get_put', ↓reduceIte, seval, o2.l1])) ?_
   exact ops2_n
 · refine ops2_u 84 _ (.p r 0 0 4) (rv_of (by simp (disch := first | omega | (simp only [lnv]; omega)) only [wlk, mwk, ↓get_put', ↓reduceIte, seval, x6, x10])) (rv_of (by simp (disch := first | omega | (simp only [lnv]; omega)) only [wlk, mwk, ↓get_put', ↓reduceIte, seval, x6, x10])) ?_
   refine ops2_u 85 _ (.p bx 0 3 6) (rv_of (by simp (disch := first | omega | (simp only [lnv]; omega)) only [wlk, mwk, ↓get_put', ↓reduceIte, seval, x6, x10])) (rv_of (by simp (disch := first | omega | (simp only [lnv]; omega)) only [wlk, mwk, ↓get_put', ↓reduceIte, seval, x6, x10])) ?_
   refine ops2_u 86 _ (sv k1) (rv_of (by simp (disch := first | omega | (simp only [lnv]; omega)) only [wlk, mwk, ↓get_put', ↓reduceIte, seval, o.l1])) (rv_of (by simp (disch := first | omega | (simp only [lnv]; omega)) only [wlk, mwk, ↓get_put', ↓reduceIte, seval, o2.l1])) ?_
   refine ops2_u 87 _ (.p bx 0 4 6) (rv_of (by simp (disch := first | omega | (simp only [lnv]; omega)) only [wlk, mwk, ↓get_put', ↓reduceIte, seval, x6, x10])) (rv_of (by simp (disch := first | omega | (simp only [lnv]; omega)) only [wlk, mwk, ↓get_put', ↓reduceIte, seval, x6, x10])) ?_
   refine ops2_u 88 _ (sv k2) (rv_of (by simp (disch := first | omega | (simp only [lnv]; omega)) only [wlk, mwk, ↓get_put', ↓reduceIte, seval, o.l1])) (rv_of (by simp (disch := first | omega | (simp only [lnv]; omega)) only [wlk, mwk, ↓get_put', ↓reduceIte, seval, o2.l1])) ?_
   exact ops2_n
 · refine ops2_u 8 _ y1 (rv_of (by simp (disch := first | omega | (simp only [lnv]; omega)) only [wlk, mwk, ↓get_put', ↓reduceIte, seval, xc])) (rv_of (by simp (disch := first | omega | (simp only [lnv]; omega)) only [wlk, mwk, ↓get_put', ↓reduceIte, seval, xc])) ?_
   refine ops2_u 9 _ y2 (rv_of (by simp (disch := first | omega | (simp only [lnv]; omega)) only [wlk, mwk, ↓get_put', ↓reduceIte, seval])) (rv_of (by simp (disch := first | omega | (simp only [lnv]; omega)) only [wlk, mwk, ↓get_put', ↓reduceIte, seval])) ?_
   exact ops2_n
 · exact fin y2 g3 p2 _ (by simp (disch := first | omega | (simp only [lnv]; omega)) only [wlk, mwk, ↓get_put', ↓reduceIte, seval, x1]) (by simp (disch := first | omega | (simp only [lnv]; omega)) only [wlk, mwk, ↓get_put', ↓reduceIte, seval, x5]) (by simp (disch := first | omega | (simp only [lnv]; omega)) only [wlk, mwk, ↓get_put', ↓reduceIte, seval, x6, e6]) (by simp (disch := first | omega | (simp only [lnv]; omega)) only [wlk, mwk, ↓get_put', ↓reduceIte, seval, x7]) (by simp (disch := first | omega | (simp only [lnv]; omega)) only [wlk, mwk, ↓get_put', ↓reduceIte, seval]) (by simp (disch := first | omega | (simp only [lnv]; omega)) only [wlk, mwk, ↓get_put', ↓reduceIte, seval])
theorem dw_drop (e5 : get 5 T = .p s 0 0 3) (e6 : get 6 T = .p r 0 0 4) (e10 : get 10 T = .p bx 0 0 6) (o : Row g bx 0 0 [.i .i64 w, .i .i64 n, .i .i64 m, sv k1, sv k2, sv b]) (hA : FnOk Try.prog 22 [.p s 0 0 3, sv k1] g QA)
   (hB : ∀ y1 g2, QA y1 g2 → Row g2 bx 0 0 [.i .i64 w, .i .i64 n, .i .i64 m, sv k1, sv k2, sv b] ∧ ∃ QB, FnOk Try.prog 23 [.p r 0 0 4, sv k1] g2 QB ∧ ∀ y2 g3, QB y2 g3 → ∀ U, get 1 U = get 1 T → get 5 U = get 5 T → get 6 U = get 6 T → get 7 U = get 7 T → get 8 U = y1 → get 9 U = y2 → K .normal U g3) :
   DW Try.prog 177 [uB 94 (doMove (tm 5)), uB 95 (doFieldAddr 3 (tm 10)), uB 96 (doLoad (tm 95)), uB 97 (doCall 22 [tm 94, tm 96]), uB 98 (doMove (tm 6)), uB 99 (doFieldAddr 3 (tm 10)), uB 100 (doLoad (tm 99)), wB 101 (doCall 23 [tm 98, tm 100]), uB 8 (doMove (tm 97)), uB 9 (doMove (tm 101))] T g K := by
 have q1 : ∀ x, x ∈ [1, 5, 6, 7, 10] → get x (put 96 (sv k1) (put 95 (.p bx 0 3 6) (put 94 (.p s 0 0 3) T))) = get x T := by intro x hx; simp at hx; rcases hx with rfl | rfl | rfl | rfl | rfl <;> simp (disch := first | omega | (simp only [lnv]; omega)) only [wlk, mwk, ↓get_put', ↓reduceIte, seval]
 have a1 : [tm 94, tm 96].map (fun o => oV o (put 96 (sv k1) (put 95 (.p bx 0 3 6) (put 94 (.p s 0 0 3) T)))) = [.p s 0 0 3, sv k1] := by simp (disch := first | omega | (simp only [lnv]; omega)) only [wlk, mwk, ↓get_put', ↓reduceIte, seval]
 obtain ⟨y1, g2, r1, p1⟩ := run_call hA a1
 obtain ⟨o2, QB, hB2, fin⟩ := hB y1 g2 p1
 have x6 : get 6 (put 97 y1 (put 96 (sv k1) (put 95 (.p bx 0 3 6) (put 94 (.p s 0 0 3) T)))) = .p r 0 0 4 := by simp (disch := first | omega | (simp only [lnv]; omega)) only [wlk, mwk, ↓get_put', ↓reduceIte, seval, e6]
 have x10 : get 10 (put 97 y1 (put 96 (sv k1) (put 95 (.p bx 0 3 6) (put 94 (.p s 0 0 3) T)))) = .p bx 0 0 6 := by simp (disch := first | omega | (simp only [lnv]; omega)) only [wlk, mwk, ↓get_put', ↓reduceIte, seval, e10]
 have x1 : get 1 (put 97 y1 (put 96 (sv k1) (put 95 (.p bx 0 3 6) (put 94 (.p s 0 0 3) T)))) = get 1 T := by simp (disch := first | omega | (simp only [lnv]; omega)) only [wlk, mwk, ↓get_put', ↓reduceIte, seval]
 have x5 : get 5 (put 97 y1 (put 96 (sv k1) (put 95 (.p bx 0 3 6) (put 94 (.p s 0 0 3) T)))) = get 5 T := by simp (disch := first | omega | (simp only [lnv]; omega)) only [wlk, mwk, ↓get_put', ↓reduceIte, seval]
 have x7 : get 7 (put 97 y1 (put 96 (sv k1) (put 95 (.p bx 0 3 6) (put 94 (.p s 0 0 3) T)))) = get 7 T := by simp (disch := first | omega | (simp only [lnv]; omega)) only [wlk, mwk, ↓get_put', ↓reduceIte, seval]
 have xc : get 97 (put 97 y1 (put 96 (sv k1) (put 95 (.p bx 0 3 6) (put 94 (.p s 0 0 3) T)))) = y1 := by simp (disch := first | omega | (simp only [lnv]; omega)) only [wlk, mwk, ↓get_put', ↓reduceIte, seval]
 obtain ⟨T2, hT2⟩ : ∃ T2, T2 = put 97 y1 (put 96 (sv k1) (put 95 (.p bx 0 3 6) (put 94 (.p s 0 0 3) T))) := ⟨_, rfl⟩
 rw [← hT2] at x6 x10 x1 x5 x7 xc
 have a2 : [tm 98, tm 100].map (fun o => oV o (put 100 (sv k1) (put 99 (.p bx 0 3 6) (put 98 (.p r 0 0 4) T2)))) = [.p r 0 0 4, sv k1] := by simp (disch := first | omega | (simp only [lnv]; omega)) only [wlk, mwk, ↓get_put', ↓reduceIte, seval]
 obtain ⟨y2, g3, r2, p2⟩ := run_call hB2 a2
 refine DW.gen (pre := [uB 94 (doMove (tm 5)), uB 95 (doFieldAddr 3 (tm 10)), uB 96 (doLoad (tm 95))]) (mid := [uB 98 (doMove (tm 6)), uB 99 (doFieldAddr 3 (tm 10)), uB 100 (doLoad (tm 99))]) (rest := [uB 8 (doMove (tm 97)), uB 9 (doMove (tm 101))]) (A := uB 97 (doCall 22 [tm 94, tm 96])) (g := .none) (d := .some (slOf 101)) (t2 := T2) (h := g) (h2 := g2) (h3 := g3) hmix rfl ?_ (by rw [hT2]; exact opRel_u 97 _ r1) ?_ (opRel_c r2) (t5 := put 9 y2 (put 8 y1 (put 101 y2 (put 100 (sv k1) (put 99 (.p bx 0 3 6) (put 98 (.p r 0 0 4) T2)))))) ?_ ?_
 · refine ops2_u 94 _ (.p s 0 0 3) (rv_of (by simp (disch := first | omega | (simp only [lnv]; omega)) only [wlk, mwk, ↓get_put', ↓reduceIte, seval, e5, e10])) (rv_of (by simp (disch := first | omega | (simp only [lnv]; omega)) only [wlk, mwk, ↓get_put', ↓reduceIte, seval, e5, e10])) ?_
   refine ops2_u 95 _ (.p bx 0 3 6) (rv_of (by simp (disch := first | omega | (simp only [lnv]; omega)) only [wlk, mwk, ↓get_put', ↓reduceIte, seval, e5, e10])) (rv_of (by simp (disch := first | omega | (simp only [lnv]; omega)) only [wlk, mwk, ↓get_put', ↓reduceIte, seval, e5, e10])) ?_
   refine ops2_u 96 _ (sv k1) (rv_of (by simp (disch := first | omega | (simp only [lnv]; omega)) only [wlk, mwk, ↓get_put', ↓reduceIte, seval, o.l1])) (rv_of (by simp (disch := first | omega | (simp only [lnv]; omega)) only [wlk, mwk, ↓get_put', ↓reduceIte, seval, o2.l1])) ?_
   exact ops2_n
 · refine ops2_u 98 _ (.p r 0 0 4) (rv_of (by simp (disch := first | omega | (simp only [lnv]; omega)) only [wlk, mwk, ↓get_put', ↓reduceIte, seval, x6, x10])) (rv_of (by simp (disch := first | omega | (simp only [lnv]; omega)) only [wlk, mwk, ↓get_put', ↓reduceIte, seval, x6, x10])) ?_
   refine ops2_u 99 _ (.p bx 0 3 6) (rv_of (by simp (disch := first | omega | (simp only [lnv]; omega)) only [wlk, mwk, ↓get_put', ↓reduceIte, seval, x6, x10])) (rv_of (by simp (disch := first | omega | (simp only [lnv]; omega)) only [wlk, mwk, ↓get_put', ↓reduceIte, seval, x6, x10])) ?_
   refine ops2_u 100 _ (sv k1) (rv_of (by simp (disch := first | omega | (simp only [lnv]; omega)) only [wlk, mwk, ↓get_put', ↓reduceIte, seval, o.l1])) (rv_of (by simp (disch := first | omega | (simp only [lnv]; omega)) only [wlk, mwk, ↓get_put', ↓reduceIte, seval, o2.l1])) ?_
   exact ops2_n
 · refine ops2_u 8 _ y1 (rv_of (by simp (disch := first | omega | (simp only [lnv]; omega)) only [wlk, mwk, ↓get_put', ↓reduceIte, seval, xc])) (rv_of (by simp (disch := first | omega | (simp only [lnv]; omega)) only [wlk, mwk, ↓get_put', ↓reduceIte, seval, xc])) ?_
   refine ops2_u 9 _ y2 (rv_of (by simp (disch := first | omega | (simp only [lnv]; omega)) only [wlk, mwk, ↓get_put', ↓reduceIte, seval])) (rv_of (by simp (disch := first | omega | (simp only [lnv]; omega)) only [wlk, mwk, ↓get_put', ↓reduceIte, seval])) ?_
   exact ops2_n
 · exact fin y2 g3 p2 _ (by simp (disch := first | omega | (simp only [lnv]; omega)) only [wlk, mwk, ↓get_put', ↓reduceIte, seval, x1]) (by simp (disch := first | omega | (simp only [lnv]; omega)) only [wlk, mwk, ↓get_put', ↓reduceIte, seval, x5]) (by simp (disch := first | omega | (simp only [lnv]; omega)) only [wlk, mwk, ↓get_put', ↓reduceIte, seval, x6, e6]) (by simp (disch := first | omega | (simp only [lnv]; omega)) only [wlk, mwk, ↓get_put', ↓reduceIte, seval, x7]) (by simp (disch := first | omega | (simp only [lnv]; omega)) only [wlk, mwk, ↓get_put', ↓reduceIte, seval]) (by simp (disch := first | omega | (simp only [lnv]; omega)) only [wlk, mwk, ↓get_put', ↓reduceIte, seval])
end
end Go.Proofs.Ytjlhfoadabkahaa

set_option maxRecDepth 100000
set_option maxHeartbeats 8000000
set_option linter.all false
namespace Go.Proofs.Ytjlhfoadabkahaa
open Go Go.Ev
def Ref (h : H) (r : B) (D : DS) (R : B → Prop) : Prop := ∃ vL vK vA, RfS h r vL vK vA D ∧ ∀ q, fpR r vL vK vA q ↔ R q
structure PS (g : H) (n0 : B) (v : V) (L : List Stp) (s r : B) (D : DS) (P R : B → Prop) : Prop where
 one : One g s D P
 ref : Ref g r D R
 sep : ∀ q, P q → ¬ R q
 st : Sts g v L
 lo : ∀ q, P q ∨ R q → B.val n0 ≤ B.val q
 hv : ∀ q, isOf v q → B.val q < B.val n0
 fl : B.val g.floor ≤ B.val g.next
 nx : B.val n0 ≤ B.val g.next
section
variable {g g2 g3 h h' : H} {n0 s s' r : B} {v : V} {L : List Stp} {D D' : DS} {P P' R R' : B → Prop} {k b : List UInt8} {n m : Int} {vL vK vA : V}
theorem Ref.stay {p : B → Prop} (o : Ref h r D R) (t : Stay p h h') (hp : ∀ q, R q → ¬ p q) : Ref h' r D R := by
 obtain ⟨vL, vK, vA, S, fp⟩ := o
 exact ⟨vL, vK, vA, S.stay t fun q hq => hp q ((fp q).1 hq), fp⟩
theorem Ref.lt (o : Ref h r D R) {q : B} (hq : R q) : B.val q < B.val h.next := by
 obtain ⟨vL, vK, vA, S, fp⟩ := o
 exact S.lt ((fp q).2 hq)
theorem Ref.aft (fp : ∀ q, fpR r vL vK vA q ↔ R q) (a : AftR h h' r vL vK vA D') : ∃ R', Ref h' r D' R' ∧ Grow h h' R R' := by
 obtain ⟨uL, uK, uA, S', st, f'⟩ := a
 exact ⟨_, ⟨uL, uK, uA, S', fun q => Iff.rfl⟩, st.mono fun q _ e => (fp q).1 (by rw [e]; exact .inl rfl), fun q hq => (f' q hq).imp_left (fp q).1⟩
theorem PS.mid (p : PS g n0 v L s r D P R) (gr : Grow g g2 P P') : Ref g2 r D R ∧ Sts g2 v L ∧ B.val g2.floor ≤ B.val g2.next ∧ B.val n0 ≤ B.val g2.next :=
 ⟨p.ref.stay gr.1 fun q h1 h2 => p.sep q h2 h1, p.st.stay gr.1 fun q h1 h2 => (by have := p.hv q h1; have := p.lo q (.inl h2); omega), gr.1.fl p.fl, Nat.le_trans p.nx gr.1.next⟩
theorem PS.fin (p : PS g n0 v L s r D P R) (o : One g2 s' D' P') (gr : Grow g g2 P P') (f : Ref g3 r D' R') (hr : Grow g2 g3 R R') : PS g3 n0 v L s' r D' P' R' := by
 obtain ⟨m1, m2, m3, m4⟩ := p.mid gr
 have k1 := gr.keep p.sep fun q => p.ref.lt
 refine ⟨o.stay hr.1 k1, f, fun q h1 h2 => (hr.2 q h2).elim (k1 q h1) fun e => by have := o.lt h1; omega, m2.stay hr.1 fun q h1 h2 => (by have := p.hv q h1; have := p.lo q (.inr h2); omega), fun q hq => ?_, p.hv, hr.1.fl m3, Nat.le_trans m4 hr.1.next⟩
 rcases hq with h1 | h1
 · exact (gr.2 q h1).elim (fun e => p.lo q (.inl e)) fun e => Nat.le_trans p.nx e
 · exact (hr.2 q h1).elim (fun e => p.lo q (.inr e)) fun e => Nat.le_trans m4 e
theorem PS.grow (p : PS g n0 v L s r D P R) (t : Stay nowhere g g2) : PS g2 n0 v L s r D P R :=
 ⟨p.one.grow t, p.ref.stay t fun _ _ e => e, p.sep, p.st.grow t, p.lo, p.hv, t.fl p.fl, Nat.le_trans p.nx t.next⟩
theorem PS.box (p : PS g n0 v L s r D P R) {bx : B} (hb : B.val g.next ≤ B.val bx) : ¬ P bx ∧ ¬ R bx := ⟨fun e => by have := p.one.lt e; omega, fun e => by have := p.ref.lt e; omega⟩
theorem PS.lens (p : PS g n0 v L s r D P R) : Okd D.L ∧ 0 ≤ D.most ∧ D.most ≤ 1000000 ∧ (nam D.L).Nodup := p.one.lens
theorem ref_put (f : Ref h r D R) (hl : Okd D.L) (hla : D.A.length ≤ 1000) (h0 : 0 ≤ D.most) (h1 : D.most ≤ 1000000) (hk : k.length ≤ 1048576) (hb : b.length ≤ 1048576) (hf : B.val h.floor ≤ B.val h.next) :
   FnOk Try.prog 17 [.p r 0 0 4, sv k, sv b] h fun y h' => y = .i .i64 (putE D k b) ∧ ∃ R', Ref h' r (if putE D k b = 0 then doD D ⟨1, k, b⟩ else D) R' ∧ Grow h h' R R' := by
 obtain ⟨vL, vK, vA, S, fp⟩ := f
 have h3 := hl.1
 have h4 := hl.2
 exact (rput_ok S (by omega) hla (by omega) h0 h1 (by omega) (by omega) hf).mono fun y h' ⟨e, a⟩ => ⟨e, Ref.aft fp a⟩
theorem ref_add (f : Ref h r D R) (hl : Okd D.L) (hla : D.A.length ≤ 1000) (h0 : 0 ≤ D.most) (h1 : D.most ≤ 1000000) (hk : k.length ≤ 1048576) (hb : b.length ≤ 1048576) (hf : B.val h.floor ≤ B.val h.next) :
   FnOk Try.prog 19 [.p r 0 0 4, sv k, sv b] h fun y h' => y = .i .i64 (addE D k b) ∧ ∃ R', Ref h' r (if addE D k b = 0 then doD D ⟨2, k, b⟩ else D) R' ∧ Grow h h' R R' := by
 obtain ⟨vL, vK, vA, S, fp⟩ := f
 have h3 := hl.1
 have h4 := hl.2
 exact (radd_ok S (by omega) hla h4 h0 h1 (by omega) (by omega) hf).mono fun y h' ⟨e, a⟩ => ⟨e, Ref.aft fp a⟩
theorem ref_swap (f : Ref h r D R) (hl : Okd D.L) (hla : D.A.length ≤ 1000) (hb : b.length ≤ 1048576) (hf : B.val h.floor ≤ B.val h.next) :
   FnOk Try.prog 21 [.p r 0 0 4, sv k, sv b] h fun y h' => y = .i .i64 (swapE D k b) ∧ ∃ R', Ref h' r (if swapE D k b = 0 then doD D ⟨3, k, b⟩ else D) R' ∧ Grow h h' R R' := by
 obtain ⟨vL, vK, vA, S, fp⟩ := f
 have h3 := hl.1
 exact (rswap_ok S (by omega) hla (by omega) hf).mono fun y h' ⟨e, a⟩ => ⟨e, Ref.aft fp a⟩
theorem ref_drop (f : Ref h r D R) (hl : Okd D.L) (hla : D.A.length ≤ 1000) (hf : B.val h.floor ≤ B.val h.next) :
   FnOk Try.prog 23 [.p r 0 0 4, sv k] h fun y h' => y = .i .i64 (dropE D k) ∧ ∃ R', Ref h' r (if dropE D k = 0 then doD D ⟨4, k, []⟩ else D) R' ∧ Grow h h' R R' := by
 obtain ⟨vL, vK, vA, S, fp⟩ := f
 have h3 := hl.1
 exact (rdrop_ok S (by omega) hla hf).mono fun y h' ⟨e, a⟩ => ⟨e, Ref.aft fp a⟩
theorem ref_keep (f : Ref h r D R) (hf : B.val h.floor ≤ B.val h.next) : FnOk Try.prog 25 [.p r 0 0 4] h fun y h' => y = .tu [] ∧ ∃ R', Ref h' r { D with K := D.L, A := [] } R' ∧ Grow h h' R R' := by
 obtain ⟨vL, vK, vA, S, fp⟩ := f
 exact (rkeep_aft S hf).mono fun y h' ⟨e, a⟩ => ⟨e, Ref.aft fp a⟩
theorem ref_room (f : Ref h r D R) (hf : B.val h.floor ≤ B.val h.next) : FnOk Try.prog 27 [.p r 0 0 4, .i .i64 n] h fun y h' => y = .tu [] ∧ ∃ R', Ref h' r { D with most := max 0 (min n 1000000) } R' ∧ Grow h h' R R' := by
 obtain ⟨vL, vK, vA, S, fp⟩ := f
 exact (rroom_aft S hf).mono fun y h' ⟨e, a⟩ => ⟨e, Ref.aft fp a⟩
theorem ref_crash (f : Ref h r D R) (o : One g s D P) (hla : D.A.length ≤ 1000) (hf : B.val h.floor ≤ B.val h.next) : FnOk Try.prog 29 [.p r 0 0 4, .i .i64 n, .i .i64 m] h fun y h' => y = .tu [] ∧
   ∃ R', Ref h' r { D with L := crashR D.K D.A n m, K := crashR D.K D.A n m, A := [] } R' ∧ Grow h h' R R' := by
 obtain ⟨vL, vK, vA, S, fp⟩ := f
 obtain ⟨mp, lo, X, U, rm, SM, Rl, _⟩ := o
 exact (rcrash_aft S Rl hla hf).mono fun y h' ⟨e, a⟩ => ⟨e, Ref.aft fp a⟩
theorem ref_get (f : Ref h r D R) (hl : Okd D.L) : FnOk Try.prog 32 [.p r 0 0 4, sv k] h fun y h' => y = .tu [sv ((gt D.L k).getD []), .i .i64 (if gt D.L k = none then 14 else 0)] ∧ h' = h := by
 obtain ⟨vL, vK, vA, S, fp⟩ := f
 have h3 := hl.1
 have := rget_ok (f := k) S (by omega)
 rwa [lookR_gt] at this
theorem ref_new (n : Int) (hf : B.val h.floor ≤ B.val h.next) : FnOk Try.prog 15 [.i .i64 n] h fun y h' => y = .p h.next 0 0 4 ∧ Stay nowhere h h' ∧ ∃ R, Ref h' h.next ⟨[], [], [], max 0 (min n 1000000)⟩ R ∧ ∀ q, R q → B.val h.next ≤ B.val q :=
 (rnew_ok n hf).mono fun y h' ⟨e, S, st, fp⟩ => ⟨e, st, _, ⟨_, _, _, S, fun q => Iff.rfl⟩, fp⟩
theorem PS.alike (p : PS g n0 v L s r D P R) (hla : D.A.length ≤ 10000) : FnOk Try.prog 33 [.p s 0 0 3, .p r 0 0 4] g fun y h' => y = .b true ∧ Stay nowhere g h' := by
 obtain ⟨vL, vK, vA, S, fp⟩ := p.ref
 exact one_alike p.one S hla p.fl
theorem acts_if {c : Prop} [Decidable c] {a : DA} {i : Nat} (h : D.A.length ≤ i) : (if c then doD D a else D).A.length ≤ i + 1 := by
 split
 · show (D.A ++ [a]).length ≤ _
   rw [List.length_append]; simp; omega
 · omega
end
end Go.Proofs.Ytjlhfoadabkahaa

set_option maxRecDepth 100000
set_option maxHeartbeats 8000000
set_option linter.all false
namespace Go.Proofs.Ytjlhfoadabkahaa
open Go Go.Ev
def MidS (Mid : F → H → Prop) : Ev.X → F → H → Prop
 | .normal, t, h => Mid t h
 | _, _, _ => False
theorem mids_n {Mid : F → H → Prop} {t : F} {h : H} : MidS Mid .normal t h = Mid t h := rfl
theorem OkS_mid {P : Program} {nt : Nat} {a b : Sh} {t : F} {h : H} {K : Ev.X → F → H → Prop} (Mid : F → H → Prop) (p : OkS P nt a t h (MidS Mid)) (k : ∀ t g, Mid t g → OkS P nt b t g K) : OkS P nt (.seq a b) t h K :=
 OkS.seq (p.mono fun x t g m => by cases x with
   | normal => exact k t g m
   | ret => exact m.elim
   | exit id => exact m.elim)
section
variable {h : H}
theorem plays_n {room : Int} {v : V} {L : List Stp} (hr0 : -9223372036854775808 ≤ room) (hr1 : room ≤ 9223372036854775807) (hL : Sts h v L) (hl : L.length ≤ 9223372036854775807) (hf : B.val h.floor ≤ B.val h.next) : FnN Try.prog 3 [.i .i64 room, v] h fun y _ => y = .b true := by
 refine fn_so cs3 (by decide) (by simp) (by simp) fun Q hQ => ?_
 simp only [slotsF]
 repeat' (first
   | refine St.h ?_
   | simp (disch := first | omega | (simp only [lnv]; omega)) only [wlk, mwk, ↓get_put', ↓reduceIte, seval, sqs_m, sqs_r, sqs_e]
   | (with_reducible (first | apply cd_split | apply gd_split)) <;> (intro hc; (try simp only [hcn] at hc); (try simp only [hc]); (try simp only [hcl] at hc); try omega))
 refine CL.pure known5 ?_
 repeat' (first
   | refine St.h ?_
   | simp (disch := first | omega | (simp only [lnv]; omega)) only [wlk, mwk, ↓get_put', ↓reduceIte, seval, sqs_m, sqs_r, sqs_e]
   | (with_reducible (first | apply cd_split | apply gd_split)) <;> (intro hc; (try simp only [hcn] at hc); (try simp only [hc]); (try simp only [hcl] at hc); try omega))
 refine CL.pure (few5_ok hL hl) ?_
 cases hfew : fewS L with
 | false =>
   repeat' (first
     | refine St.h ?_
     | simp (disch := first | omega | (simp only [lnv]; omega)) only [wlk, mwk, ↓get_put', ↓reduceIte, seval, sqs_m, sqs_r, sqs_e]
     | (with_reducible (first | apply cd_split | apply gd_split)) <;> (intro hc; (try simp only [hcn] at hc); (try simp only [hc]); (try simp only [hcl] at hc); try omega))
   subst hQ; rfl
 | true =>
 unfold fewS at hfew
 rw [Bool.and_eq_true, decide_eq_true_eq] at hfew
 obtain ⟨hall, hlen⟩ := hfew
 have hst : ∀ i, i < L.length → (L.getD i default).b.length ≤ 100 ∧ (L.getD i default).name.length ≤ 30 ∧ (L.getD i default).to.length ≤ 30 := fun i hi => by
   have := List.all_eq_true.1 hall (L.getD i default) (by simp [List.getD, hi])
   unfold okS at this
   simpa only [Bool.and_eq_true, decide_eq_true_eq] using this
 clear hall
 repeat' (first
   | refine St.h ?_
   | simp (disch := first | omega | (simp only [lnv]; omega)) only [wlk, mwk, ↓get_put', ↓reduceIte, seval, sqs_m, sqs_r, sqs_e]
   | (with_reducible (first | apply cd_split | apply gd_split)) <;> (intro hc; (try simp only [hcn] at hc); (try simp only [hc]); (try simp only [hcl] at hc); try omega))
 refine CL.mk (one_new room hf) ?_
 rintro y h1 ⟨rfl, st1, P1, o1, lo1⟩
 have hf1 := st1.fl hf
 repeat' (first
   | refine St.h ?_
   | simp (disch := first | omega | (simp only [lnv]; omega)) only [wlk, mwk, ↓get_put', ↓reduceIte, seval, sqs_m, sqs_r, sqs_e]
   | (with_reducible (first | apply cd_split | apply gd_split)) <;> (intro hc; (try simp only [hcn] at hc); (try simp only [hc]); (try simp only [hcl] at hc); try omega))
 refine CL.mk (ref_new room hf1) ?_
 rintro y h2 ⟨rfl, st2, R2, f2, lo2⟩
 have p2 : PS h2 h.next v L h.next h1.next ⟨[], [], [], max 0 (min room 1000000)⟩ P1 R2 :=
   ⟨o1.grow st2, f2, fun q a b => by have := lo2 q b; have := o1.lt a; omega, (hL.grow st1).grow st2, fun q a => a.elim (lo1 q) fun b => Nat.le_trans st1.next (lo2 q b), fun q a => ss_lt hL a, st2.fl hf1, Nat.le_trans st1.next st2.next⟩
 generalize h.next = n0 at *
 generalize h1.next = r at *
 clear o1 f2 lo1 lo2 st1 st2 hf1
 repeat' (first
   | refine St.h ?_
   | simp (disch := first | omega | (simp only [lnv]; omega)) only [wlk, mwk, ↓get_put', ↓reduceIte, seval, sqs_m, sqs_r, sqs_e]
   | (with_reducible (first | apply cd_split | apply gd_split)) <;> (intro hc; (try simp only [hcn] at hc); (try simp only [hc]); (try simp only [hcl] at hc); try omega))
 refine OkS.lp (fun mm t g => ∃ i s D P R, mm = L.length - i ∧ i ≤ L.length ∧ get 1 t = v ∧ get 5 t = .p s 0 0 3 ∧ get 6 t = .p r 0 0 4 ∧ get 7 t = .i .i64 (i : Int) ∧ PS g n0 v L s r D P R ∧ D.A.length ≤ i) L.length ?_ ?_
 · simp (disch := first | omega | (simp only [lnv]; omega)) only [wlk, mwk, ↓get_put', ↓reduceIte, seval]
   refine ⟨0, n0, ⟨[], [], [], max 0 (min room 1000000)⟩, P1, R2, by omega, by omega, ?_⟩
   repeat' (first | exact p2 | exact Nat.le_refl 0 | trivial | rfl | refine And.intro ?_ ?_)
 clear p2 hL
 rintro I hI mm t g ⟨i, s, D, P, R, rfl, hi, f1, f5, f6, f7, p, hA⟩
 obtain ⟨Mid, hMid⟩ : ∃ M : F → H → Prop, M = fun t g' => ∃ s D P R E, get 1 t = v ∧ get 5 t = .p s 0 0 3 ∧ get 6 t = .p r 0 0 4 ∧ get 7 t = .i .i64 (i : Int) ∧ get 8 t = .i .i64 E ∧ get 9 t = .i .i64 E ∧ PS g' n0 v L s r D P R ∧ D.A.length ≤ i + 1 := ⟨_, rfl⟩
 repeat' (first
   | (with_reducible refine (show OkS Try.prog 177 s3_62 _ _ _ from ?_)); refine OkS_mid Mid ?_ ?_
   | refine St.h ?_
   | simp (disch := first | omega | (simp only [lnv]; omega)) only [wlk, mwk, ↓get_put', ↓reduceIte, seval, f1, f5, f6, f7, p.st.ln, p.st.ix, st_la p.st, sqs_m, sqs_r, sqs_e, mids_n, Int.toNat_natCast]
   | (with_reducible (first | apply cd_split | apply gd_split)) <;> (intro hc; (try simp only [hcn] at hc); (try simp only [hc]); (try simp only [hcl] at hc); try omega))
 rotate_left
 · clear f1 f5 f6 f7 p hA
   rw [hMid]
   rintro t g ⟨s, D, P, R, E, f1, f5, f6, f7, f8, f9, p, hA⟩
   have okL := p.lens.1
   have hi' : i < L.length := by omega
   repeat' (first
     | refine St.h ?_
     | simp (disch := first | omega | (simp only [lnv]; omega)) only [wlk, mwk, ↓get_put', ↓reduceIte, seval, f1, f5, f6, f7, p.st.ln, p.st.ix, st_l3 p.st, sqs_m, sqs_r, sqs_e, Int.toNat_natCast]
     | (with_reducible (first | apply cd_split | apply gd_split)) <;> (intro hc; (try simp only [hcn] at hc); (try simp only [hc]); (try simp only [hcl] at hc); try omega))
   refine CL.pure (one_get p.one) ?_
   repeat' (first
     | refine St.h ?_
     | simp (disch := first | omega | (simp only [lnv]; omega)) only [wlk, mwk, ↓get_put', ↓reduceIte, seval, f1, f5, f6, f7, p.st.ln, p.st.ix, st_l3 p.st, sqs_m, sqs_r, sqs_e, Int.toNat_natCast]
     | (with_reducible (first | apply cd_split | apply gd_split)) <;> (intro hc; (try simp only [hcn] at hc); (try simp only [hc]); (try simp only [hcl] at hc); try omega))
   refine CL.pure (ref_get p.ref okL) ?_
   repeat' (first
     | refine St.h ?_
     | simp (disch := first | omega | (simp only [lnv]; omega)) only [wlk, mwk, ↓get_put', ↓reduceIte, seval, f1, f5, f6, f7, f8, f9, sqs_m, sqs_r, sqs_e]
     | (with_reducible (first | apply cd_split | apply gd_split)) <;> (intro hc; (try simp only [hcn] at hc); (try simp only [hc]); (try simp only [hcl] at hc); try omega))
   refine CL.stay (p.alike (by omega)) fun g1 s1 => ?_
   repeat' (first
     | refine St.h ?_
     | simp (disch := first | omega | (simp only [lnv]; omega)) only [wlk, mwk, ↓get_put', ↓reduceIte, seval, f1, f5, f6, f7, f8, f9, sqs_m, sqs_r, sqs_e]
     | (with_reducible (first | apply cd_split | apply gd_split)) <;> (intro hc; (try simp only [hcn] at hc); (try simp only [hc]); (try simp only [hcl] at hc); try omega))
   refine lp_next hI (L.length - (i + 1)) (by omega) ⟨i + 1, s, D, P, R, rfl, by omega, by simp (disch := first | omega | (simp only [lnv]; omega)) only [wlk, mwk, ↓get_put', ↓reduceIte, seval, f1], by simp (disch := first | omega | (simp only [lnv]; omega)) only [wlk, mwk, ↓get_put', ↓reduceIte, seval, f5], by simp (disch := first | omega | (simp only [lnv]; omega)) only [wlk, mwk, ↓get_put', ↓reduceIte, seval, f6], by simp (disch := first | omega | (simp only [lnv]; omega)) only [wlk, mwk, ↓get_put', ↓reduceIte, seval, f7]; rfl, p.grow s1, hA⟩
 · subst hQ; rfl
 have hi' : i < L.length := by omega
 obtain ⟨hb, hn, hto⟩ := hst i hi'
 obtain ⟨nP, nR⟩ := p.box (Nat.le_refl _)
 refine AL.own (by simp) p.fl fun g1 s1 n1 o1 => ?_
 repeat' (first
   | refine St.h ?_
   | simp (disch := first | omega | (simp only [lnv]; omega)) only [wlk, mwk, ↓get_put', ↓reduceIte, seval]
   | (with_reducible (first | apply cd_split | apply gd_split)) <;> (intro hc; (try simp only [hcn] at hc); (try simp only [hc]); (try simp only [hcl] at hc); try omega))
 refine ST.all o1 rfl rfl (Nat.le_refl 6) (show 6 < 2 ^ 37 by decide) fun g2 o2 t2 => ?_
 have s12 : Stay nowhere g g2 := s1.past' t2 fun id hid => by rw [hid]; exact Nat.le_refl _
 have pg := p.grow s12
 have hbx : B.val g.next < B.val g2.next := by have := t2.next; omega
 clear s1 o1 t2 n1 hst
 generalize L.getD i default = x at *
 generalize g.next = bx at *
 have o2 : Ev.Own g2 bx [.i .i64 x.what, .i .i64 x.n, .i .i64 x.m, sv x.name, sv x.to, sv x.b] := o2
 obtain ⟨okL, h0, h1, _⟩ := pg.lens
 repeat' (first
   | with_reducible refine dwStop ?_
   | refine St.h ?_
   | simp (disch := first | omega | (simp only [lnv]; omega)) only [wlk, mwk, ↓get_put', ↓reduceIte, seval, f1, f5, f6, f7, o2.row.l1, sqs_m, sqs_r, sqs_e, mids_n]
   | (with_reducible (first | apply cd_split | apply gd_split)) <;> (intro hc; (try simp only [hcn] at hc); (try simp only [hc]); (try simp only [hcl] at hc); try omega))
 · refine dw_gen fun T hT => ?_
   have e1 : get 1 T = v := by rw [hT]; simp (disch := first | omega | (simp only [lnv]; omega)) only [wlk, mwk, ↓get_put', ↓reduceIte, seval, f1]
   have e5 : get 5 T = .p s 0 0 3 := by rw [hT]; simp (disch := first | omega | (simp only [lnv]; omega)) only [wlk, mwk, ↓get_put', ↓reduceIte, seval, f5]
   have e6 : get 6 T = .p r 0 0 4 := by rw [hT]; simp (disch := first | omega | (simp only [lnv]; omega)) only [wlk, mwk, ↓get_put', ↓reduceIte, seval, f6]
   have e7 : get 7 T = .i .i64 (i : Int) := by rw [hT]; simp (disch := first | omega | (simp only [lnv]; omega)) only [wlk, mwk, ↓get_put', ↓reduceIte, seval, f7]
   have e10 : get 10 T = .p bx 0 0 6 := by rw [hT]; simp (disch := first | omega | (simp only [lnv]; omega)) only [wlk, mwk, ↓get_put', ↓reduceIte, seval]
   clear hT
   refine dw_put e5 e6 e10 o2.row (one_put pg.one (by omega) (by omega) (by omega) pg.fl) ?_
   rintro y1 g3 ⟨rfl, P', o', gr⟩
   obtain ⟨m1, m2, m3, m4⟩ := pg.mid gr
   refine ⟨(o2.stay gr.1 nP).row, _, ref_put m1 okL (by omega) h0 h1 (by omega) (by omega) m3, ?_⟩
   rintro y2 g4 ⟨rfl, R', f', hr⟩ U u1 u5 u6 u7 u8 u9
   have pf := pg.fin o' gr f' hr
   repeat' (first
     | refine St.h ?_
     | simp (disch := first | omega | (simp only [lnv]; omega)) only [wlk, mwk, ↓get_put', ↓reduceIte, seval, mids_n]
     | (with_reducible (first | apply cd_split | apply gd_split)) <;> (intro hc; (try simp only [hcn] at hc); (try simp only [hc]); (try simp only [hcl] at hc); try omega))
   rw [hMid]
   exact ⟨s, _, P', R', _, u1.trans e1, u5.trans e5, u6.trans e6, u7.trans e7, u8, u9, pf, acts_if hA⟩
 · refine dw_gen fun T hT => ?_
   have e1 : get 1 T = v := by rw [hT]; simp (disch := first | omega | (simp only [lnv]; omega)) only [wlk, mwk, ↓get_put', ↓reduceIte, seval, f1]
   have e5 : get 5 T = .p s 0 0 3 := by rw [hT]; simp (disch := first | omega | (simp only [lnv]; omega)) only [wlk, mwk, ↓get_put', ↓reduceIte, seval, f5]
   have e6 : get 6 T = .p r 0 0 4 := by rw [hT]; simp (disch := first | omega | (simp only [lnv]; omega)) only [wlk, mwk, ↓get_put', ↓reduceIte, seval, f6]
   have e7 : get 7 T = .i .i64 (i : Int) := by rw [hT]; simp (disch := first | omega | (simp only [lnv]; omega)) only [wlk, mwk, ↓get_put', ↓reduceIte, seval, f7]
   have e10 : get 10 T = .p bx 0 0 6 := by rw [hT]; simp (disch := first | omega | (simp only [lnv]; omega)) only [wlk, mwk, ↓get_put', ↓reduceIte, seval]
   clear hT
   refine dw_add e5 e6 e10 o2.row (one_add pg.one (by omega) (by omega) pg.fl) ?_
   rintro y1 g3 ⟨rfl, P', o', gr⟩
   obtain ⟨m1, m2, m3, m4⟩ := pg.mid gr
   refine ⟨(o2.stay gr.1 nP).row, _, ref_add m1 okL (by omega) h0 h1 (by omega) (by omega) m3, ?_⟩
   rintro y2 g4 ⟨rfl, R', f', hr⟩ U u1 u5 u6 u7 u8 u9
   have pf := pg.fin o' gr f' hr
   repeat' (first
     | refine St.h ?_
     | simp (disch := first | omega | (simp only [lnv]; omega)) only [wlk, mwk, ↓get_put', ↓reduceIte, seval, mids_n]
     | (with_reducible (first | apply cd_split | apply gd_split)) <;> (intro hc; (try simp only [hcn] at hc); (try simp only [hc]); (try simp only [hcl] at hc); try omega))
   rw [hMid]
   exact ⟨s, _, P', R', _, u1.trans e1, u5.trans e5, u6.trans e6, u7.trans e7, u8, u9, pf, acts_if hA⟩
 · refine dw_gen fun T hT => ?_
   have e1 : get 1 T = v := by rw [hT]; simp (disch := first | omega | (simp only [lnv]; omega)) only [wlk, mwk, ↓get_put', ↓reduceIte, seval, f1]
   have e5 : get 5 T = .p s 0 0 3 := by rw [hT]; simp (disch := first | omega | (simp only [lnv]; omega)) only [wlk, mwk, ↓get_put', ↓reduceIte, seval, f5]
   have e6 : get 6 T = .p r 0 0 4 := by rw [hT]; simp (disch := first | omega | (simp only [lnv]; omega)) only [wlk, mwk, ↓get_put', ↓reduceIte, seval, f6]
   have e7 : get 7 T = .i .i64 (i : Int) := by rw [hT]; simp (disch := first | omega | (simp only [lnv]; omega)) only [wlk, mwk, ↓get_put', ↓reduceIte, seval, f7]
   have e10 : get 10 T = .p bx 0 0 6 := by rw [hT]; simp (disch := first | omega | (simp only [lnv]; omega)) only [wlk, mwk, ↓get_put', ↓reduceIte, seval]
   clear hT
   refine dw_swap e5 e6 e10 o2.row (one_swap pg.one (by omega) (by omega) pg.fl) ?_
   rintro y1 g3 ⟨rfl, P', o', gr⟩
   obtain ⟨m1, m2, m3, m4⟩ := pg.mid gr
   refine ⟨(o2.stay gr.1 nP).row, _, ref_swap m1 okL (by omega) (by omega) m3, ?_⟩
   rintro y2 g4 ⟨rfl, R', f', hr⟩ U u1 u5 u6 u7 u8 u9
   have pf := pg.fin o' gr f' hr
   repeat' (first
     | refine St.h ?_
     | simp (disch := first | omega | (simp only [lnv]; omega)) only [wlk, mwk, ↓get_put', ↓reduceIte, seval, mids_n]
     | (with_reducible (first | apply cd_split | apply gd_split)) <;> (intro hc; (try simp only [hcn] at hc); (try simp only [hc]); (try simp only [hcl] at hc); try omega))
   rw [hMid]
   exact ⟨s, _, P', R', _, u1.trans e1, u5.trans e5, u6.trans e6, u7.trans e7, u8, u9, pf, acts_if hA⟩
 · refine dw_gen fun T hT => ?_
   have e1 : get 1 T = v := by rw [hT]; simp (disch := first | omega | (simp only [lnv]; omega)) only [wlk, mwk, ↓get_put', ↓reduceIte, seval, f1]
   have e5 : get 5 T = .p s 0 0 3 := by rw [hT]; simp (disch := first | omega | (simp only [lnv]; omega)) only [wlk, mwk, ↓get_put', ↓reduceIte, seval, f5]
   have e6 : get 6 T = .p r 0 0 4 := by rw [hT]; simp (disch := first | omega | (simp only [lnv]; omega)) only [wlk, mwk, ↓get_put', ↓reduceIte, seval, f6]
   have e7 : get 7 T = .i .i64 (i : Int) := by rw [hT]; simp (disch := first | omega | (simp only [lnv]; omega)) only [wlk, mwk, ↓get_put', ↓reduceIte, seval, f7]
   have e10 : get 10 T = .p bx 0 0 6 := by rw [hT]; simp (disch := first | omega | (simp only [lnv]; omega)) only [wlk, mwk, ↓get_put', ↓reduceIte, seval]
   clear hT
   refine dw_drop e5 e6 e10 o2.row (one_drop pg.one (by omega)  pg.fl) ?_
   rintro y1 g3 ⟨rfl, P', o', gr⟩
   obtain ⟨m1, m2, m3, m4⟩ := pg.mid gr
   refine ⟨(o2.stay gr.1 nP).row, _, ref_drop m1 okL (by omega)  m3, ?_⟩
   rintro y2 g4 ⟨rfl, R', f', hr⟩ U u1 u5 u6 u7 u8 u9
   have pf := pg.fin o' gr f' hr
   repeat' (first
     | refine St.h ?_
     | simp (disch := first | omega | (simp only [lnv]; omega)) only [wlk, mwk, ↓get_put', ↓reduceIte, seval, mids_n]
     | (with_reducible (first | apply cd_split | apply gd_split)) <;> (intro hc; (try simp only [hcn] at hc); (try simp only [hc]); (try simp only [hcl] at hc); try omega))
   rw [hMid]
   exact ⟨s, _, P', R', _, u1.trans e1, u5.trans e5, u6.trans e6, u7.trans e7, u8, u9, pf, acts_if hA⟩
 · refine CL.mk (one_keep pg.one) ?_
   rintro y g3 ⟨rfl, P', o', gr⟩
   obtain ⟨m1, m2, m3, m4⟩ := pg.mid gr
   have o3 := o2.stay gr.1 nP
   repeat' (first
     | refine St.h ?_
     | simp (disch := first | omega | (simp only [lnv]; omega)) only [wlk, mwk, ↓get_put', ↓reduceIte, seval, f1, f5, f6, f7, o3.row.l1]
     | (with_reducible (first | apply cd_split | apply gd_split)) <;> (intro hc; (try simp only [hcn] at hc); (try simp only [hc]); (try simp only [hcl] at hc); try omega))
   refine CL.mk (ref_keep m1 m3) ?_
   rintro y g4 ⟨rfl, R', f', hr⟩
   have pf := pg.fin o' gr f' hr
   repeat' (first
     | refine St.h ?_
     | simp (disch := first | omega | (simp only [lnv]; omega)) only [wlk, mwk, ↓get_put', ↓reduceIte, seval, mids_n]
     | (with_reducible (first | apply cd_split | apply gd_split)) <;> (intro hc; (try simp only [hcn] at hc); (try simp only [hc]); (try simp only [hcl] at hc); try omega))
   rw [hMid]
   exact ⟨s, _, P', R', 0, by simp (disch := first | omega | (simp only [lnv]; omega)) only [wlk, mwk, ↓get_put', ↓reduceIte, seval, f1], by simp (disch := first | omega | (simp only [lnv]; omega)) only [wlk, mwk, ↓get_put', ↓reduceIte, seval, f5], by simp (disch := first | omega | (simp only [lnv]; omega)) only [wlk, mwk, ↓get_put', ↓reduceIte, seval, f6], by simp (disch := first | omega | (simp only [lnv]; omega)) only [wlk, mwk, ↓get_put', ↓reduceIte, seval, f7], by simp (disch := first | omega | (simp only [lnv]; omega)) only [wlk, mwk, ↓get_put', ↓reduceIte, seval], by simp (disch := first | omega | (simp only [lnv]; omega)) only [wlk, mwk, ↓get_put', ↓reduceIte, seval], pf, Nat.zero_le _⟩
 · refine CL.mk (one_room pg.one (n := x.n)) ?_
   rintro y g3 ⟨rfl, P', o', gr⟩
   obtain ⟨m1, m2, m3, m4⟩ := pg.mid gr
   have o3 := o2.stay gr.1 nP
   repeat' (first
     | refine St.h ?_
     | simp (disch := first | omega | (simp only [lnv]; omega)) only [wlk, mwk, ↓get_put', ↓reduceIte, seval, f1, f5, f6, f7, o3.row.l1]
     | (with_reducible (first | apply cd_split | apply gd_split)) <;> (intro hc; (try simp only [hcn] at hc); (try simp only [hc]); (try simp only [hcl] at hc); try omega))
   refine CL.mk (ref_room m1 m3) ?_
   rintro y g4 ⟨rfl, R', f', hr⟩
   have pf := pg.fin o' gr f' hr
   repeat' (first
     | refine St.h ?_
     | simp (disch := first | omega | (simp only [lnv]; omega)) only [wlk, mwk, ↓get_put', ↓reduceIte, seval, mids_n]
     | (with_reducible (first | apply cd_split | apply gd_split)) <;> (intro hc; (try simp only [hcn] at hc); (try simp only [hc]); (try simp only [hcl] at hc); try omega))
   rw [hMid]
   exact ⟨s, _, P', R', 0, by simp (disch := first | omega | (simp only [lnv]; omega)) only [wlk, mwk, ↓get_put', ↓reduceIte, seval, f1], by simp (disch := first | omega | (simp only [lnv]; omega)) only [wlk, mwk, ↓get_put', ↓reduceIte, seval, f5], by simp (disch := first | omega | (simp only [lnv]; omega)) only [wlk, mwk, ↓get_put', ↓reduceIte, seval, f6], by simp (disch := first | omega | (simp only [lnv]; omega)) only [wlk, mwk, ↓get_put', ↓reduceIte, seval, f7], by simp (disch := first | omega | (simp only [lnv]; omega)) only [wlk, mwk, ↓get_put', ↓reduceIte, seval], by simp (disch := first | omega | (simp only [lnv]; omega)) only [wlk, mwk, ↓get_put', ↓reduceIte, seval], pf, Nat.le_succ_of_le hA⟩
 · refine CL.mk (one_crash pg.one (n := x.n) (m := x.m) (by omega) pg.fl) ?_
   rintro y g3 ⟨rfl, P', o', gr⟩
   obtain ⟨m1, m2, m3, m4⟩ := pg.mid gr
   have o3 := o2.stay gr.1 nP
   repeat' (first
     | refine St.h ?_
     | simp (disch := first | omega | (simp only [lnv]; omega)) only [wlk, mwk, ↓get_put', ↓reduceIte, seval, f1, f5, f6, f7, o3.row.l1]
     | (with_reducible (first | apply cd_split | apply gd_split)) <;> (intro hc; (try simp only [hcn] at hc); (try simp only [hc]); (try simp only [hcl] at hc); try omega))
   refine CL.mk (ref_crash m1 pg.one (by omega) m3) ?_
   rintro y g4 ⟨rfl, R', f', hr⟩
   have pf := pg.fin o' gr f' hr
   repeat' (first
     | refine St.h ?_
     | simp (disch := first | omega | (simp only [lnv]; omega)) only [wlk, mwk, ↓get_put', ↓reduceIte, seval, mids_n]
     | (with_reducible (first | apply cd_split | apply gd_split)) <;> (intro hc; (try simp only [hcn] at hc); (try simp only [hc]); (try simp only [hcl] at hc); try omega))
   rw [hMid]
   exact ⟨s, _, P', R', 0, by simp (disch := first | omega | (simp only [lnv]; omega)) only [wlk, mwk, ↓get_put', ↓reduceIte, seval, f1], by simp (disch := first | omega | (simp only [lnv]; omega)) only [wlk, mwk, ↓get_put', ↓reduceIte, seval, f5], by simp (disch := first | omega | (simp only [lnv]; omega)) only [wlk, mwk, ↓get_put', ↓reduceIte, seval, f6], by simp (disch := first | omega | (simp only [lnv]; omega)) only [wlk, mwk, ↓get_put', ↓reduceIte, seval, f7], by simp (disch := first | omega | (simp only [lnv]; omega)) only [wlk, mwk, ↓get_put', ↓reduceIte, seval], by simp (disch := first | omega | (simp only [lnv]; omega)) only [wlk, mwk, ↓get_put', ↓reduceIte, seval], pf, Nat.zero_le _⟩
 · refine OkS.cn (wo_gen fun K hK => ?_)
   dsimp only [c3_0]
   repeat' (first
     | refine St.h ?_
     | simp (disch := first | omega | (simp only [lnv]; omega)) only [wlk, mwk, ↓get_put', ↓reduceIte, seval, f5]
     | (with_reducible (first | apply cd_split | apply gd_split)) <;> (intro hc; (try simp only [hcn] at hc); (try simp only [hc]); (try simp only [hcl] at hc); try omega))
   subst hK
   refine ⟨_, _, one_copy pg.one (by omega) pg.fl, by simp (disch := first | omega | (simp only [lnv]; omega)) only [wlk, mwk, ↓get_put', ↓reduceIte, seval, f5], ?_⟩
   rintro y g3 ⟨st, c, P', rfl, oc, hc⟩
   have p3 := pg.grow st
   have hcl : ∀ q, P' q → ¬ P q := fun q a b => by have := hc q a; have := pg.one.lt b; omega
   repeat' (first
     | refine St.h ?_
     | simp (disch := first | omega | (simp only [lnv]; omega)) only [wlk, mwk, ↓get_put', ↓reduceIte, seval, f5, sqs_m, sqs_r, sqs_e, mids_n]
     | (with_reducible (first | apply cd_split | apply gd_split)) <;> (intro hc; (try simp only [hcn] at hc); (try simp only [hc]); (try simp only [hcl] at hc); try omega))
   refine CL.mk (one_crash p3.one (n := 0) (m := 0) (by omega) p3.fl) ?_
   rintro y g4 ⟨rfl, P1, o1, gr⟩
   obtain ⟨m1, m2, m3, m4⟩ := p3.mid gr
   have oc4 := oc.stay gr.1 hcl
   have k1 := gr.keep p3.sep fun q => p3.ref.lt
   have k2 := gr.keep (fun q a b => hcl q b a) fun q => oc.lt
   have e5 : V.s 5 478694368626 = sv [111, 116, 104, 101, 114] := by kernel_rfl
   have e6 : V.s 5 422944466291 = sv [98, 121, 116, 101, 115] := by kernel_rfl
   repeat' (first
     | refine St.h ?_
     | simp (disch := first | omega | (simp only [lnv]; omega)) only [wlk, mwk, ↓get_put', ↓reduceIte, seval, f5, sqs_m, sqs_r, sqs_e, mids_n, e5, e6]
     | (with_reducible (first | apply cd_split | apply gd_split)) <;> (intro hc; (try simp only [hcn] at hc); (try simp only [hc]); (try simp only [hcl] at hc); try omega))
   refine CL.mk (one_put o1 (k := [111, 116, 104, 101, 114]) (b := [98, 121, 116, 101, 115]) (by simp) (by simp) (by simp) m3) ?_
   rintro y g5 ⟨rfl, P2, o5, gr5⟩
   repeat' (first
     | refine St.h ?_
     | simp (disch := first | omega | (simp only [lnv]; omega)) only [wlk, mwk, ↓get_put', ↓reduceIte, seval, mids_n]
     | (with_reducible (first | apply cd_split | apply gd_split)) <;> (intro hc; (try simp only [hcn] at hc); (try simp only [hc]); (try simp only [hcl] at hc); try omega))
   rw [hMid]
   refine ⟨c, D, P', R, 0, by simp (disch := first | omega | (simp only [lnv]; omega)) only [wlk, mwk, ↓get_put', ↓reduceIte, seval, f1], by simp (disch := first | omega | (simp only [lnv]; omega)) only [wlk, mwk, ↓get_put', ↓reduceIte, seval], by simp (disch := first | omega | (simp only [lnv]; omega)) only [wlk, mwk, ↓get_put', ↓reduceIte, seval, f6], by simp (disch := first | omega | (simp only [lnv]; omega)) only [wlk, mwk, ↓get_put', ↓reduceIte, seval, f7], by simp (disch := first | omega | (simp only [lnv]; omega)) only [wlk, mwk, ↓get_put', ↓reduceIte, seval], by simp (disch := first | omega | (simp only [lnv]; omega)) only [wlk, mwk, ↓get_put', ↓reduceIte, seval], ⟨oc4.stay gr5.1 fun q a b => k2 q b a, m1.stay gr5.1 fun q a b => k1 q b a, fun q a b => ?_, m2.stay gr5.1 fun q a b => ?_, fun q a => ?_, p3.hv, gr5.1.fl m3, Nat.le_trans m4 gr5.1.next⟩, Nat.le_succ_of_le hA⟩
   · have := hc q a; have := pg.ref.lt b; omega
   · have h5 := p3.hv q a
     have h6 := p3.nx
     rcases gr.2 q b with h4 | h4
     · have := p3.lo q (.inl h4); omega
     · omega
   · rcases a with a | a
     · have := hc q a; have := pg.nx; omega
     · exact pg.lo q (.inr a)
end
end Go.Proofs.Ytjlhfoadabkahaa

set_option linter.all false
namespace Go.Ev
open Go Go.RowKit Go.WideShapes Go.ChangeShapes Go.ChangeAt Go.Deep
section
variable {H' : Type} {enc : TypeId × Value → H'} {P : Program}
inductive Kd where
 | i (k : IntKind)
 | s
 | b
def Kd.ok (P : Program) (k : Kd) (t : TypeId) : Prop := match k with
 | .i k => P.underlying t = some (.int k)
 | .s => P.underlying t = some .string
 | .b => P.underlying t = some .bool
def FldOk (P : Program) (l : List Field) : Nat → List Kd → Prop
 | _, [] => True
 | n, k :: ks => (∃ f, l[n]? = some f ∧ f.offset = n ∧ P.cellsOf f.type = 1 ∧ k.ok P f.type) ∧ FldOk P l (n + 1) ks
structure FlatF (P : Program) (t : TypeId) (fs : Array Field) (ks : List Kd) : Prop where
 ut : P.underlying t = some (.struct fs)
 sz : P.cellsOf t = ks.length
 fld : FldOk P fs.toList 0 ks
def Kd.fit (k : Kd) (c : Value) : Prop := match k with
 | .i k => ∃ n, c = .int k n ∧ (Lit.int k n).wf = true
 | .s => ∃ s : ByteArray, c = .string s ∧ s.size ≤ maxLen
 | .b => ∃ q, c = .bool q
def Fits : List Kd → List Value → Prop
 | [], cs => cs = []
 | k :: ks, cs => ∃ c r, cs = c :: r ∧ k.fit c ∧ Fits ks r
theorem flat_fits {W : World} {t : TypeId} {fs : Array Field} {ks : List Kd} {fuel : Nat} {cs : List Value} {x : DataW H' × List MemPlace} (F : FlatF P t fs ks) (hd : DataW.trod enc P W 0 (fun _ => true) true fuel t cs = some x) : Fits ks cs := by
 have hf : cs.length = ks.length ∧ ∀ (i : Nat) f, fs.toList[i]? = some f → ∃ n y, DataW.trod enc P W 0 (fun _ => true) true n f.type ((cs.drop f.offset).take (P.cellsOf f.type)) = some y := by
   cases fuel with
   | zero => simp [DataW.trod] at hd
   | succ n =>
     unfold DataW.trod at hd
     rw [F.ut] at hd
     simp only at hd
     split at hd
     · rename_i hl
       refine ⟨hl.trans F.sz, fun i f hf => ?_⟩
       rw [Option.map_eq_some_iff] at hd
       obtain ⟨xs, hx, _⟩ := hd
       have := mapM_some_get hx i f hf
       have hlen := mapM_some_length hx
       have hi : i < xs.length := by rw [hlen]; exact (List.getElem?_eq_some_iff.1 hf).1
       exact ⟨n, xs[i], by rw [this]; simp⟩
     · cases hd
 obtain ⟨hl, hf⟩ := hf
 have go : ∀ (ks : List Kd) (n : Nat), FldOk P fs.toList n ks → cs.length = n + ks.length → Fits ks (cs.drop n) := by
   intro ks
   induction ks with
   | nil => intro n _ e; exact List.drop_eq_nil_of_le (by rw [e]; exact Nat.le_refl _)
   | cons k ks ih =>
     rintro n ⟨⟨f, g, o, c, u⟩, hr⟩ e
     have hlt : n < cs.length := by rw [e, List.length_cons]; omega
     have hc : cs.drop n = cs[n] :: cs.drop (n + 1) := List.drop_eq_getElem_cons hlt
     obtain ⟨m, y, h⟩ := hf n f g
     rw [o, c, hc] at h
     refine ⟨cs[n], cs.drop (n + 1), hc, ?_, ih (n + 1) hr (by rw [e, List.length_cons]; omega)⟩
     cases k with
     | i kd =>
       obtain ⟨z, e1, _, z1⟩ := DataW.trod_int u h
       exact ⟨z, (List.cons.inj e1).1, z1⟩
     | s =>
       obtain ⟨z, e1, _, z1⟩ := DataW.trod_string u h
       exact ⟨z, (List.cons.inj e1).1, z1⟩
     | b =>
       obtain ⟨z, e1, _⟩ := DataW.trod_bool u h
       exact ⟨z, (List.cons.inj e1).1⟩
 have := go ks 0 F.fld (by rw [hl, Nat.zero_add])
 rwa [List.drop_zero] at this
theorem absV_int (W : World) (k : IntKind) (n : Int) : absV W (.int k n) = .i k n := by unfold absV; rfl
theorem rows_of {α : Type} [Inhabited α] {c : α → List V} {n : Nat} {Pr : α → Prop} (hc : ∀ a, (c a).length = n) (hn : 1 ≤ n) {W : World} {h : H} (s : Start W h) (h0 : 0 < W.heap.size) {t e : TypeId} {fuel : Nat} {cs : List Value} {x : DataW H' × List MemPlace}
   (ht : P.underlying t = some (.slice e)) (sz : P.cellsOf e = n) (cell : ∀ (fuel : Nat) (cs : List Value) (x : DataW H' × List MemPlace), DataW.trod enc P W 0 (fun _ => true) true fuel e cs = some x → ∃ a, cs.map (absV W) = c a ∧ Pr a)
   (hd : DataW.trod enc P W 0 (fun _ => true) true fuel t cs = some x) : ∃ sv L, cs = [sv] ∧ Ss n c h (absV W sv) L ∧ L.length ≤ 9223372036854775807 ∧ ∀ a ∈ L, Pr a := by
 rcases open_slice ht hd with ⟨rfl, _⟩ | ⟨a, len, cap, m, nn, D, Pl, rfl, hb, hl, hm, hmm, _, hx⟩
 · exact ⟨_, [], rfl, .inl ⟨rfl, rfl⟩, by simp, fun e he => by cases he⟩
 simp only [if_true] at hmm
 rw [sz] at hx
 have hx' : ∀ i, i < len → ∃ E : α × List Value, E.2.map (absV W) = c E.1 ∧ Pr E.1 ∧ (∀ d y, E.2[d]? = some y → W.cell? ⟨a.block, a.off + i * n + d, none⟩ = some y) ∧ (0 < len → a.spot = none) := by
   intro i hi
   obtain ⟨cs', h1, h2⟩ := hx i (by omega)
   obtain ⟨z, e1, e2⟩ := cell _ _ _ h2
   have hlen' : cs'.length = n := by have := congrArg List.length e1; rwa [List.length_map, hc] at this
   obtain ⟨_, _, h3⟩ := World.cells?_some h1
   refine ⟨(z, cs'), e1, e2, fun d y hy => ?_, fun _ => ?_⟩
   · have hd : d < n := by have : d < cs'.length := (List.getElem?_eq_some_iff.1 hy).1; omega
     have hy : cs'[d]? = some y := hy
     have h4 := h3 d hd
     rw [hy] at h4
     have h5 := cell_add h4
     have e1 : (a.add (i * n)).block = a.block := by unfold Addr.add; split <;> rfl
     have e2 : (a.add (i * n)).off = a.off + i * n := by
       unfold Addr.add; split
       · rename_i hz; rw [hz]; rfl
       · rfl
     rw [e1, e2] at h5
     exact h5
   · obtain ⟨cs0, g1, g2⟩ := hx 0 (by omega)
     obtain ⟨z0, e3, _⟩ := cell _ _ _ g2
     have hl0 : cs0.length = n := by have := congrArg List.length e3; rwa [List.length_map, hc] at this
     obtain ⟨_, _, g3⟩ := World.cells?_some g1
     have g4 := g3 0 (by omega)
     rw [List.getElem?_eq_getElem (by omega)] at g4
     have g5 := World.cell?_spot g4
     unfold Addr.add at g5
     simpa using g5
 haveI : Inhabited (α × List Value) := ⟨(default, [])⟩
 obtain ⟨E, hE⟩ := choose_lt (α := α × List Value) (p := fun i r => r.2.map (absV W) = c r.1 ∧ Pr r.1 ∧ (∀ d y, r.2[d]? = some y → W.cell? ⟨a.block, a.off + i * n + d, none⟩ = some y) ∧ (0 < len → a.spot = none)) hx'
 have hL : ((List.range len).map fun i => (E i).1).length = len := by simp
 refine ⟨_, (List.range len).map fun i => (E i).1, rfl, ?_, by rw [hL]; exact maxLen_le (by omega), fun e he => ?_⟩
 · obtain ⟨b, off, spot⟩ := a
   cases len with
   | zero =>
     have e : absV W (.slice (some ⟨b, off, spot⟩) 0 cap) = .l (nb 0) 0 0 0 0 none := by unfold absV; simp only [if_pos h0]
     rw [e]
     exact .inr ⟨nb 0, 0, 0, 0, none, rfl, by simp, (s.blk 0 h0).1, fun hne => absurd rfl hne, fun i v hv => by simp at hv⟩
   | succ m =>
     have hs' : spot = none := (hE 0 (by omega)).2.2.2 (by omega)
     subst hs'
     have hcell : ∀ i, i < m + 1 → ∀ d y, (E i).2[d]? = some y → b < W.heap.size ∧ off + i * n + d < csz W b ∧ (∃ blk, h.heap.get (nb b) = some blk ∧ blk.min ≤ 0) ∧ Ev.cell h (nb b) 0 (off + i * n + d) = some (absV W y) :=
       fun i hi d y hy => s.cell ((hE i hi).2.2.1 d y hy)
     have hEl : ∀ i, i < m + 1 → (E i).2.length = n := fun i hi => by have := congrArg List.length (hE i hi).1; rwa [List.length_map, hc] at this
     obtain ⟨d1, d2, d3, d4⟩ := hcell m (by omega) (n - 1) _ (List.getElem?_eq_getElem (by rw [hEl m (by omega)]; omega))
     have e : absV W (.slice (some ⟨b, off, none⟩) (m + 1) cap) = .l (nb b) 0 off (m + 1) (csz W b) (some cap) := by unfold absV; simp only [if_pos (⟨d1, hl, Nat.lt_of_le_of_lt hm maxLen_lt⟩ : b < W.heap.size ∧ m + 1 ≤ cap ∧ cap < 18446744073709551616)]
     rw [e]
     have hmul : (m + 1) * n = m * n + n := by rw [Nat.add_mul, Nat.one_mul]
     refine .inr ⟨nb b, 0, off, csz W b, some cap, by rw [hL], by rw [hL, hmul]; omega, (s.blk b d1).1, fun _ => d3, fun j v hv => ?_⟩
     have hj : j < (((List.range (m + 1)).map fun i => (E i).1).flatMap c).length := (List.getElem?_eq_some_iff.1 hv).1
     rw [fm_len hc, hL] at hj
     obtain ⟨i, d, rfl, hd, hi⟩ : ∃ i d, j = i * n + d ∧ d < n ∧ i < m + 1 := ⟨j / n, j % n, by rw [Nat.mul_comm]; exact (Nat.div_add_mod j n).symm, Nat.mod_lt _ (by omega), Nat.div_lt_of_lt_mul (by rw [Nat.mul_comm]; exact hj)⟩
     rw [fm_get hc (by rw [hL]; exact hi) hd] at hv
     have hG : ((List.range (m + 1)).map fun i => (E i).1).getD i default = (E i).1 := by simp [List.getD, hi]
     have hy : (E i).2[d]? = some ((E i).2[d]'(by rw [hEl i hi]; exact hd)) := List.getElem?_eq_getElem _
     generalize (E i).2[d]'(by rw [hEl i hi]; exact hd) = y at hy
     rw [hG, ← (hE i hi).1] at hv
     have : ((E i).2.map (absV W)).getD d .u = absV W y := by simp [List.getD, hy]
     rw [this] at hv
     cases hv
     rw [← Nat.add_assoc]
     exact (hcell i hi d y hy).2.2.2
 · obtain ⟨i, hi, rfl⟩ := List.mem_map.1 he
   rw [List.mem_range] at hi
   exact (hE i hi).2.1
end
end Go.Ev

set_option linter.all false
namespace Go.Proofs.Ytjlhfoadabkahaa
open Go Go.Ev
theorem shelfPlays_ok {h : H} {room : Int} {v : V} {L : List Stp} (hr0 : -9223372036854775808 ≤ room) (hr1 : room ≤ 9223372036854775807) (hL : Sts h v L) (hl : L.length ≤ 9223372036854775807) (_hf : B.val h.floor ≤ B.val h.next) : FnOk Try.prog 3 [.i .i64 room, v] h fun y _ => y = .b true :=
 (FnN.pure (plays_n hr0 hr1 (ss_re' hL) hl (by rw [reFloor_floor, reFloor_next]; exact Nat.le_refl _)) fun ρ ρ' x hx => hx).mono fun y h' e => e.1
theorem sts_of {H' : Type} {enc : TypeId × Value → H'} {P : Program} {W : World} {h : H} (s : Go.Ev.Start W h) (h0 : 0 < W.heap.size) {t e : TypeId} {fs : Array Field} {fuel : Nat} {cs : List Value} {x : DataW H' × List MemPlace} (ht : P.underlying t = some (.slice e)) (F : FlatF P e fs [.i .i64, .i .i64, .i .i64, .s, .s, .s])
   (hd : DataW.trod enc P W 0 (fun _ => true) true fuel t cs = some x) : ∃ sv L, cs = [sv] ∧ Sts h (absV W sv) L ∧ L.length ≤ 9223372036854775807 ∧ ∀ a ∈ L, True :=
 rows_of (c := stC) (Pr := fun _ => True) stC_len (by omega) s h0 ht F.sz (fun fuel cs x h => by
   obtain ⟨_, _, rfl, ⟨a, rfl, _⟩, _, _, rfl, ⟨b, rfl, _⟩, _, _, rfl, ⟨c, rfl, _⟩, _, _, rfl, ⟨d, rfl, _⟩, _, _, rfl, ⟨e, rfl, _⟩, _, _, rfl, ⟨f, rfl, _⟩, rfl⟩ := flat_fits F h
   refine ⟨⟨a, b, c, d.data.toList, e.data.toList, f.data.toList⟩, ?_, trivial⟩
   simp only [List.map_cons, List.map_nil, absV_int, absV_str]
   rfl) hd
end Go.Proofs.Ytjlhfoadabkahaa

namespace Go.Proofs.Ytjlhfoadabkahaa.shelfPlays
open Go Go.Ev Go.ChangeShapes Go.WideShapes Go.ChangeAt Go.RowKit Go.ChangeMaps
set_option linter.all false
theorem own : ownKnob Try.prog.godebug = none := by kernel_rfl
theorem laid : laidOutB Try.prog = true := by kernel_rfl
theorem heap_pos {W : World} (h : W.ShapedOpen Try.prog) : 0 < W.heap.size := by
 obtain ⟨o, _, h1, _⟩ := h.2 0 (of_decide_eq_true (by kernel_rfl)) (of_decide_eq_true (by kernel_rfl))
 exact (Array.getElem?_eq_some_iff.1 h1).1
set_option maxRecDepth 100000 in
theorem isR1 : ∃ fs, FlatF Try.prog 31 fs [.i .i64, .i .i64, .i .i64, .s, .s, .s] := ⟨_, ⟨Try.underlying31, by kernel_rfl, ⟨⟨_, rfl, rfl, by kernel_rfl, Try.underlying3⟩, ⟨_, rfl, rfl, by kernel_rfl, Try.underlying3⟩, ⟨_, rfl, rfl, by kernel_rfl, Try.underlying3⟩, ⟨_, rfl, rfl, by kernel_rfl, Try.underlying9⟩, ⟨_, rfl, rfl, by kernel_rfl, Try.underlying9⟩, ⟨_, rfl, rfl, by kernel_rfl, Try.underlying9⟩, trivial⟩⟩⟩
set_option maxRecDepth 100000 in
theorem run {H : Type} {enc : TypeId × Value → H} (W : World) (base : Nat) (args : Array Value) (ds : List (DataW H)) (p : List MemPlace) (hval : ∀ (j : Nat) t v, Try.f3.params[j]? = some t → args[j]? = some v → Value.okWide Try.prog W .any base t v) (hopen : W.ShapedOpen Try.prog)
   (hA : DataW.TrodAll enc Try.prog W 0 (fun _ => true) true Try.f3.params.toList args.toList ds p) : Calls Try.prog 3 args W fun e w' => e = .returned (.bool true) ∧ Below W.heap.size W w' := by
 rw [Try.params3] at hA hval
 obtain ⟨v0, vs0, d0, ds0, p0, q0, hargs, rfl, rfl, h0, r0⟩ := trodAll_cons hA
 obtain ⟨v1, vs1, d1, ds1, p1, q1, rfl, rfl, rfl, h1, r1⟩ := trodAll_cons r0
 obtain ⟨rfl, rfl, rfl⟩ := trodAll_nil r1
 obtain rfl : args = #[v0, v1] := by cases args; simp_all
 obtain ⟨h, s1, s2⟩ := Go.Ev.start W
 have s : Go.Ev.Start W h := ⟨s1, s2⟩
 obtain ⟨a0, rfl, rfl, rfl, w0⟩ := open_int Try.underlying3 (hval 0 3 v0 rfl rfl) h0
 obtain ⟨x1, y1, z1, rfl⟩ := okWide_slice Try.underlying22 (hval 1 22 v1 rfl rfl)
 obtain ⟨fu1, hfu1⟩ := h1
 obtain ⟨fs1, F1⟩ := isR1
 obtain ⟨u1, L1, e1, m1, l1, _⟩ := sts_of s (heap_pos hopen) Try.underlying22 F1 hfu1
 obtain rfl := (List.cons.inj (show [Value.slice x1 y1 z1] = [u1] from e1)).1
 exact calls_true s (vs := [.i .i64 a0, absV W (.slice x1 y1 z1)]) ⟨rfl, absV_rel W _, trivial⟩ (shelfPlays_ok (wf_i64 w0).1 (wf_i64 w0).2 m1 l1 s1.flo)
set_option maxRecDepth 100000 in
theorem lifted (os : Os) (started : os.Started) (H : Type) (enc : TypeId × Value → H) :
   ReturnsInHanded {} Try.checked os 3 .any (Rows.shelfPlaysSpec.pre6 enc Try.prog Try.f3 Rows.shelfPlaysRow.domain false) (Rows.shelfPlaysSpec.post enc Try.prog Try.f3 false true false false) :=
 law_lifted (C := Try.checked) own started (by kernel_rfl) Try.func3
   (ChangeSpec.witness6 (enc := enc) (C := Try.checked) false ⟨#[], #[.int .i64 0, .slice none 0 0], []⟩ 8 (by kernel_rfl) (by kernel_rfl) (by kernel_rfl) (by kernel_rfl))
   rfl (fun ds hd => by rw [Try.params3] at hd; match ds, hd with | [d1, d2], _ => rfl) laid (by kernel_rfl) (by kernel_rfl) Try.underlying4 (fun W base args ds p hv ho hA => run W base args ds p hv ho hA)
theorem over : Rows.shelfPlaysRow.holds Try.pinned (OpenSpec.ofChange Rows.shelfPlaysSpec) :=
 OpenClaim.holds_of_wide 3 Try.f3 rfl rfl rfl rfl rfl rfl rfl ⟨rfl, rfl, rfl, rfl, rfl⟩ rfl rfl rfl rfl rfl (by kernel_rfl) Try.func3 (by kernel_rfl)
   (of_decide_eq_true (by kernel_rfl)) (by unfold Func.isWrapper; first | (rw [if_pos (by decide +kernel)]; kernel_rfl) | (rw [if_neg (by decide +kernel)]; exact ⟨rfl, rfl⟩))
   (fun os started H enc _ => lifted os started H enc)
theorem proved : Rows.ShelfPlaysSaid :=
 over
end Go.Proofs.Ytjlhfoadabkahaa.shelfPlays
