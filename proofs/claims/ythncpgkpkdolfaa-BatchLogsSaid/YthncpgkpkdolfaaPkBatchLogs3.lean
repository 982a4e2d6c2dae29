/- Texts of ours, without what this claim does not use: EvM EvN EvO EvQ EvR EvV EvX EvP Arg ArgS Wa Wb EvZ Wc Wd JrSo JrBa CellM. No condition. -/
import Derived.Test.YthncpgkpkdolfaaPkBatchLogs2
import Derived.ProofKit
import Derived.HandedShaped
import Derived.Carry
import Derived.OpenShut
import Derived.Deep.Slices
import Derived.SliceStrings
import Derived.Test.YthncpgkpkdolfaaProg
import Derived.KernelRfl
set_option linter.all false
namespace Go.Ev
open Go
noncomputable def put (n : Nat) (v : V) (t : F) : F := Classical.choose (sPut_ok (slOf n) v t)
noncomputable def get (n : Nat) (t : F) : V := sGet (slOf n) t
theorem sPut_put (n : Nat) (v : V) (t : F) (k : F → Bool) : sPut (slOf n) v t k = k (put n v t) := (Classical.choose_spec (sPut_ok (slOf n) v t)).1 k
theorem get_put (n m : Nat) (v : V) (t : F) (hn : n < 512) (hm : m < 512) : get n (put m v t) = if n = m then v else get n t := by
  have h := Classical.choose_spec (sPut_ok (slOf m) v t)
  by_cases e : n = m
  · subst e; rw [if_pos rfl]; exact h.2.1
  · rw [if_neg e]; exact h.2.2 _ fun he => e (slOf_inj hn hm he)
noncomputable def slotsF : List V → Nat → F → F
  | [], _, t => t
  | v :: vs, n, t => slotsF vs (n + 1) (put n v t)
theorem slots_slotsF : ∀ (vs : List V) (n : Nat) (t : F) (k : F → Bool), slots vs n t k = k (slotsF vs n t)
  | [], _, _, _ => rfl
  | v :: vs, n, t, k => by
    have e : slots (v :: vs) n t k = sPut (slOf n) v t fun t => slots vs (n + 1) t k := rfl
    rw [e, sPut_put, slots_slotsF vs]; rfl
abbrev tm (n : Nat) : O := .t (slOf n)
theorem oV_t (n : Nat) (t : F) : oV (.t (slOf n)) t = get n t := rfl
theorem oV_c (v : V) (t : F) : oV (.c v) t = v := rfl
def Steps (P : Program) (nt : Nat) (c : Code) (t : F) (h : H) (x : X) (t' : F) (h' : H) : Prop := KeepF h h' ∧ B.val h.next ≤ B.val h'.next ∧ CodeSound P nt c t h x t' h'
/-- the code that is compiled as 'cc' comes, from that state, to one of which K holds -/
def Ok (P : Program) (nt : Nat) (cc : CC) (t : F) (h : H) (K : X → F → H → Prop) : Prop := ∃ x t' h', (∀ c, comp P nt c = cc → Steps P nt c t h x t' h') ∧ K x t' h'
theorem Ok.mono {P : Program} {nt : Nat} {cc : CC} {t : F} {h : H} {K K' : X → F → H → Prop} (a : Ok P nt cc t h K) (hk : ∀ x t h, K x t h → K' x t h) : Ok P nt cc t h K' := by
  obtain ⟨x, t', h', a1, a2⟩ := a
  exact ⟨x, t', h', a1, hk _ _ _ a2⟩
theorem Steps.scope {P : Program} {nt : Nat} {c : Code} {t : F} {h : H} {x : X} {t' : F} {h' : H} (a : Steps P nt c t h x t' h') : Steps P nt (.scope c) t h x t' h' := by
  obtain ⟨a2, a3, a4⟩ := a
  refine ⟨a2, a3, fun ρ a w w0 Q A R hQ => wp_scope_straight (a4 ρ a w w0 _ A R fun ρ' a' w' l1 A' R' => ?_)⟩
  have := hQ ρ' a' w' l1 A' R'
  cases x <;> exact this
theorem Steps.trans {P : Program} {nt : Nat} {c1 c2 : Code} {t t1 t2 : F} {h h1 h2 : H} {x : X} (a : Steps P nt c1 t h .normal t1 h1) (b : Steps P nt c2 t1 h1 x t2 h2) : Steps P nt (.seq c1 c2) t h x t2 h2 := by
  obtain ⟨a2, a3, a4⟩ := a
  obtain ⟨b2, b3, b4⟩ := b
  refine ⟨KeepF.trans a2 a3 b2, Nat.le_trans a3 b3, fun ρ a w w0 Q A R hQ => ?_⟩
  refine wp_seq (a4 ρ a w w0 _ A R fun ρ' a' w' l1 A' R' => ?_)
  exact b4 ρ' a' w' w0 Q A' R' fun ρ'' a'' w'' l2 A'' R'' => hQ ρ'' a'' w'' (l1.trans (by rw [← a2.1]; exact l2)) A'' R''
/-- what is compiled so is code of that kind, but for scopes -/
theorem by_scopes {P : Program} {nt : Nat} {t : F} {h : H} {x : X} {t' : F} {h' : H} (cc : CC)
    (base : ∀ c, comp P nt c = cc → (∀ d, c ≠ .scope d) → Steps P nt c t h x t' h') : ∀ c, comp P nt c = cc → Steps P nt c t h x t' h' := by
  intro c
  induction c with
  | scope d ih => intro e; exact (ih e).scope
  | _ => intro e; exact base _ e (fun d hd => by cases hd)
section
variable {P : Program} {nt : Nat} {t : F} {h : H} {K : X → F → H → Prop}
theorem Ok.skip (k : K .normal t h) : Ok P nt .skip t h K := by
  refine ⟨.normal, t, h, by_scopes _ fun c e hs => ?_, k⟩
  have r : ∀ c, (c = .skip ∨ ∃ l, c = .label l) → Steps P nt c t h .normal t h := by
    rintro c (rfl | ⟨l, rfl⟩)
    · exact ⟨KeepF.refl h, Nat.le_refl _, fun ρ a w w0 Q A R hQ => wp_skip (hQ ρ a w (Ext.refl _ ρ) A R)⟩
    · exact ⟨KeepF.refl h, Nat.le_refl _, fun ρ a w w0 Q A R hQ => wp_label (hQ ρ a w (Ext.refl _ ρ) A R)⟩
  cases c with
  | skip => exact r _ (.inl rfl)
  | label l => exact r _ (.inr ⟨l, rfl⟩)
  | scope d => exact absurd rfl (hs d)
  | region id ops draw =>
    have e' : compRegion P nt ops.toList draw = .skip := e
    unfold compRegion at e'
    split at e'
    · cases e'
    · split at e' <;> cases e'
  | _ => cases e
theorem Ok.exit {id : Nat} (k : K (.exit id) t h) : Ok P nt (.exit id) t h K := by
  refine ⟨.exit id, t, h, by_scopes _ fun c e hs => ?_, k⟩
  cases c with
  | exit j => cases e; exact ⟨KeepF.refl h, Nat.le_refl _, fun ρ a w w0 Q A R hQ => wp_exit (hQ ρ a w (Ext.refl _ ρ) A R)⟩
  | scope d => exact absurd rfl (hs d)
  | region id ops draw =>
    have e' : compRegion P nt ops.toList draw = .exit _ := e
    unfold compRegion at e'
    split at e'
    · cases e'
    · split at e' <;> cases e'
  | _ => cases e
theorem Ok.ret (k : K .ret t h) : Ok P nt .ret t h K := by
  refine ⟨.ret, t, h, by_scopes _ fun c e hs => ?_, k⟩
  cases c with
  | ret => exact ⟨KeepF.refl h, Nat.le_refl _, fun ρ a w w0 Q A R hQ => wp_ret (hQ ρ a w (Ext.refl _ ρ) A R)⟩
  | scope d => exact absurd rfl (hs d)
  | region id ops draw =>
    have e' : compRegion P nt ops.toList draw = .ret := e
    unfold compRegion at e'
    split at e'
    · cases e'
    · split at e' <;> cases e'
  | _ => cases e
/-- behind the first part -/
def Then (K' : F → H → Prop) (K : X → F → H → Prop) : X → F → H → Prop
  | .normal, t, h => K' t h
  | x, t, h => K x t h
theorem Ok.seq {a b : CC} (k : Ok P nt a t h (Then (fun t h => Ok P nt b t h K) K)) : Ok P nt (.seq a b) t h K := by
  obtain ⟨x, t1, h1, a1, a2⟩ := k
  have inv : ∀ c, comp P nt c = .seq a b → (∀ d, c ≠ .scope d) → ∃ c1 c2, c = .seq c1 c2 ∧ comp P nt c1 = a ∧ comp P nt c2 = b := by
    intro c e hs
    cases c with
    | seq c1 c2 => cases e; exact ⟨c1, c2, rfl, rfl, rfl⟩
    | scope d => exact absurd rfl (hs d)
    | region id ops draw =>
      have e' : compRegion P nt ops.toList draw = .seq a b := e
      unfold compRegion at e'
      split at e'
      · cases e'
      · split at e' <;> cases e'
    | _ => cases e
  cases x with
  | normal =>
    obtain ⟨x2, t2, h2, b1, b2⟩ := a2
    refine ⟨x2, t2, h2, by_scopes _ fun c e hs => ?_, b2⟩
    obtain ⟨c1, c2, rfl, e1, e2⟩ := inv c e hs
    exact (a1 c1 e1).trans (b1 c2 e2)
  | exit id =>
    refine ⟨_, t1, h1, by_scopes _ fun c e hs => ?_, a2⟩
    obtain ⟨c1, c2, rfl, e1, e2⟩ := inv c e hs
    obtain ⟨s1, s2, s3⟩ := a1 c1 e1
    exact ⟨s1, s2, fun ρ a w w0 Q A R hQ => wp_seq (s3 ρ a w w0 _ A R fun ρ' a' w' l1 A' R' => hQ ρ' a' w' l1 A' R')⟩
  | ret =>
    refine ⟨_, t1, h1, by_scopes _ fun c e hs => ?_, a2⟩
    obtain ⟨c1, c2, rfl, e1, e2⟩ := inv c e hs
    obtain ⟨s1, s2, s3⟩ := a1 c1 e1
    exact ⟨s1, s2, fun ρ a w w0 Q A R hQ => wp_seq (s3 ρ a w w0 _ A R fun ρ' a' w' l1 A' R' => hQ ρ' a' w' l1 A' R')⟩
theorem Ok.cond {o : O} {a b : CC} {q : Bool} (hq : oV o t = .b q) (ha : q = true → Ok P nt a t h K) (hb : q = false → Ok P nt b t h K) : Ok P nt (.cond o a b) t h K := by
  have inv : ∀ c, comp P nt c = .cond o a b → (∀ d, c ≠ .scope d) → ∃ x c1 c2, c = .cond x c1 c2 ∧ compO x = o ∧ comp P nt c1 = a ∧ comp P nt c2 = b := by
    intro c e hs
    cases c with
    | cond x c1 c2 => cases e; exact ⟨x, c1, c2, rfl, rfl, rfl, rfl⟩
    | scope d => exact absurd rfl (hs d)
    | region id ops draw =>
      have e' : compRegion P nt ops.toList draw = .cond o a b := e
      unfold compRegion at e'
      split at e'
      · cases e'
      · split at e' <;> cases e'
    | _ => cases e
  have hev : ∀ x, compO x = o → ∀ ρ a, ARel ρ nt t a → a.eval x = .bool q := fun x hx ρ a A => by
    have := opnd_rel A x
    rw [hx, hq] at this; exact this
  cases q with
  | true =>
    obtain ⟨x, t1, h1, a1, a2⟩ := ha rfl
    refine ⟨x, t1, h1, by_scopes _ fun c e hs => ?_, a2⟩
    obtain ⟨y, c1, c2, rfl, e0, e1, e2⟩ := inv c e hs
    obtain ⟨s1, s2, s3⟩ := a1 c1 e1
    exact ⟨s1, s2, fun ρ a w w0 Q A R hQ => wp_cond_true (hev y e0 ρ a A) (s3 ρ a w w0 Q A R hQ)⟩
  | false =>
    obtain ⟨x, t1, h1, a1, a2⟩ := hb rfl
    refine ⟨x, t1, h1, by_scopes _ fun c e hs => ?_, a2⟩
    obtain ⟨y, c1, c2, rfl, e0, e1, e2⟩ := inv c e hs
    obtain ⟨s1, s2, s3⟩ := a1 c2 e2
    exact ⟨s1, s2, fun ρ a w w0 Q A R hQ => wp_cond_false (hev y e0 ρ a A) (s3 ρ a w w0 Q A R hQ)⟩
/-- out of a block -/
def Out (id : Nat) (K : X → F → H → Prop) : X → F → H → Prop
  | .exit j, t, h => if j = id then K .normal t h else K (.exit j) t h
  | x, t, h => K x t h
theorem Ok.block {id : Nat} {a : CC} (k : Ok P nt a t h (Out id K)) : Ok P nt (.block id a) t h K := by
  obtain ⟨x, t1, h1, a1, a2⟩ := k
  have inv : ∀ c, comp P nt c = .block id a → (∀ d, c ≠ .scope d) → ∃ c1, c = .block id c1 ∧ comp P nt c1 = a := by
    intro c e hs
    cases c with
    | block j c1 => cases e; exact ⟨c1, rfl, rfl⟩
    | scope d => exact absurd rfl (hs d)
    | region id ops draw =>
      have e' : compRegion P nt ops.toList draw = .block _ a := e
      unfold compRegion at e'
      split at e'
      · cases e'
      · split at e' <;> cases e'
    | _ => cases e
  cases x with
  | normal =>
    refine ⟨_, t1, h1, by_scopes _ fun c e hs => ?_, a2⟩
    obtain ⟨c1, rfl, e1⟩ := inv c e hs
    obtain ⟨s1, s2, s3⟩ := a1 c1 e1
    exact ⟨s1, s2, fun ρ a w w0 Q A R hQ => wp_block (s3 ρ a w w0 _ A R fun ρ' a' w' l1 A' R' => hQ ρ' a' w' l1 A' R')⟩
  | ret =>
    refine ⟨_, t1, h1, by_scopes _ fun c e hs => ?_, a2⟩
    obtain ⟨c1, rfl, e1⟩ := inv c e hs
    obtain ⟨s1, s2, s3⟩ := a1 c1 e1
    exact ⟨s1, s2, fun ρ a w w0 Q A R hQ => wp_block (s3 ρ a w w0 _ A R fun ρ' a' w' l1 A' R' => hQ ρ' a' w' l1 A' R')⟩
  | exit j =>
    by_cases hj : j = id
    · have a2' : K .normal t1 h1 := by
        have : (if j = id then K .normal t1 h1 else K (.exit j) t1 h1) := a2
        rwa [if_pos hj] at this
      refine ⟨_, t1, h1, by_scopes _ fun c e hs => ?_, a2'⟩
      obtain ⟨c1, rfl, e1⟩ := inv c e hs
      obtain ⟨s1, s2, s3⟩ := a1 c1 e1
      refine ⟨s1, s2, fun ρ a w w0 Q A R hQ => wp_block (s3 ρ a w w0 _ A R fun ρ' a' w' l1 A' R' => ?_)⟩
      show (if j = id then Q .normal a' w' else Q (.exit j) a' w')
      rw [if_pos hj]; exact hQ ρ' a' w' l1 A' R'
    · have a2' : K (.exit j) t1 h1 := by
        have : (if j = id then K .normal t1 h1 else K (.exit j) t1 h1) := a2
        rwa [if_neg hj] at this
      refine ⟨_, t1, h1, by_scopes _ fun c e hs => ?_, a2'⟩
      obtain ⟨c1, rfl, e1⟩ := inv c e hs
      obtain ⟨s1, s2, s3⟩ := a1 c1 e1
      refine ⟨s1, s2, fun ρ a w w0 Q A R hQ => wp_block (s3 ρ a w w0 _ A R fun ρ' a' w' l1 A' R' => ?_)⟩
      show (if j = id then Q .normal a' w' else Q (.exit j) a' w')
      rw [if_neg hj]; exact hQ ρ' a' w' l1 A' R'
end
/-- a loop: 'Inv m' holds at each round's head, and m falls -/
theorem Ok.loop {P : Program} {nt : Nat} {a : CC} {K : X → F → H → Prop} (Inv : Nat → F → H → Prop)
    (round : ∀ m t h, Inv m t h → Ok P nt a t h (Then (fun t' h' => ∃ m', m' < m ∧ Inv m' t' h') K)) : ∀ m t h, Inv m t h → Ok P nt (.loop a) t h K := by
  have inv : ∀ c, comp P nt c = .loop a → (∀ d, c ≠ .scope d) → ∃ c1, c = .loop c1 ∧ comp P nt c1 = a := by
    intro c e hs
    cases c with
    | loop c1 => cases e; exact ⟨c1, rfl, rfl⟩
    | scope d => exact absurd rfl (hs d)
    | region id ops draw =>
      have e' : compRegion P nt ops.toList draw = .loop a := e
      unfold compRegion at e'
      split at e'
      · cases e'
      · split at e' <;> cases e'
    | _ => cases e
  have main : ∀ n m t h, m ≤ n → Inv m t h → ∃ x t' h', (∀ c, comp P nt c = a → KeepF h h' ∧ B.val h.next ≤ B.val h'.next ∧ LoopSound P nt c t h x t' h') ∧ K x t' h' := by
    intro n
    induction n with
    | zero =>
      intro m t h hm hI
      obtain ⟨x, t1, h1, a1, a2⟩ := round m t h hI
      cases x with
      | normal => obtain ⟨m', hm', _⟩ := a2; omega
      | exit id => exact ⟨_, t1, h1, fun c e => ⟨(a1 c e).1, (a1 c e).2.1, fun ρ a w w0 Q A R hQ => loopArr_of ((a1 c e).2.2 ρ a w w0 _ A R fun ρ' a' w' l1 A' R' => hQ ρ' a' w' l1 A' R')⟩, a2⟩
      | ret => exact ⟨_, t1, h1, fun c e => ⟨(a1 c e).1, (a1 c e).2.1, fun ρ a w w0 Q A R hQ => loopArr_of ((a1 c e).2.2 ρ a w w0 _ A R fun ρ' a' w' l1 A' R' => hQ ρ' a' w' l1 A' R')⟩, a2⟩
    | succ n ih =>
      intro m t h hm hI
      obtain ⟨x, t1, h1, a1, a2⟩ := round m t h hI
      cases x with
      | normal =>
        obtain ⟨m', hm', hI'⟩ := a2
        obtain ⟨x2, t2, h2, b1, b2⟩ := ih m' t1 h1 (by omega) hI'
        refine ⟨x2, t2, h2, fun c e => ?_, b2⟩
        obtain ⟨s1, s2, s3⟩ := a1 c e
        obtain ⟨r1, r2, r3⟩ := b1 c e
        refine ⟨KeepF.trans s1 s2 r1, Nat.le_trans s2 r2, fun ρ a w w0 Q A R hQ => ?_⟩
        refine loopArr_of (s3 ρ a w w0 _ A R fun ρ' a' w' l1 A' R' => ?_)
        exact r3 ρ' a' w' w0 Q A' R' fun ρ'' a'' w'' l2 A'' R'' => hQ ρ'' a'' w'' (l1.trans (by rw [← s1.1]; exact l2)) A'' R''
      | exit id => exact ⟨_, t1, h1, fun c e => ⟨(a1 c e).1, (a1 c e).2.1, fun ρ a w w0 Q A R hQ => loopArr_of ((a1 c e).2.2 ρ a w w0 _ A R fun ρ' a' w' l1 A' R' => hQ ρ' a' w' l1 A' R')⟩, a2⟩
      | ret => exact ⟨_, t1, h1, fun c e => ⟨(a1 c e).1, (a1 c e).2.1, fun ρ a w w0 Q A R hQ => loopArr_of ((a1 c e).2.2 ρ a w w0 _ A R fun ρ' a' w' l1 A' R' => hQ ρ' a' w' l1 A' R')⟩, a2⟩
  intro m t h hI
  obtain ⟨x, t', h', a1, a2⟩ := main m m t h (Nat.le_refl _) hI
  refine ⟨x, t', h', by_scopes _ fun c e hs => ?_, a2⟩
  obtain ⟨c1, rfl, e1⟩ := inv c e hs
  obtain ⟨s1, s2, s3⟩ := a1 c1 e1
  exact ⟨s1, s2, fun ρ a w w0 Q A R hQ => wp_loop_of (s3 ρ a w w0 Q A R hQ)⟩
def FnRes (P : Program) (f : FuncId) (vs : List V) (h : H) (v : V) (h' : H) : Prop := KeepF h h' ∧ B.val h.next ≤ B.val h'.next ∧
  ∀ ρ w w0 args, LRel ρ vs args → HRel ρ h w w0 →
    (callFunc f args.toArray).run P w = .ok (.enter f args.toArray) w ∧ Calls P f args.toArray w fun e w' => ∃ x, e = .returned x ∧ Done h.floor ρ w0 v h' x w'
def FnOk (P : Program) (f : FuncId) (vs : List V) (h : H) (K : V → H → Prop) : Prop := ∃ v h', FnRes P f vs h v h' ∧ K v h'
theorem FnOk.mono {P : Program} {f : FuncId} {vs : List V} {h : H} {K K' : V → H → Prop} (a : FnOk P f vs h K) (hk : ∀ v h, K v h → K' v h) : FnOk P f vs h K' := by
  obtain ⟨v, h', a1, a2⟩ := a
  exact ⟨v, h', a1, hk _ _ a2⟩
abbrev Spec := FuncId → List V → H → V → H → Prop
open Classical in
/-- calls by their specifications -/
noncomputable def cfS (P : Program) (S : Spec) : CallF := fun f vs h k => if e : ∃ r : V × H, FnRes P f vs h r.1 r.2 ∧ S f vs h r.1 r.2 then k (Classical.choose e).1 (Classical.choose e).2 else false
theorem cfS_ok (P : Program) (S : Spec) : CfOk P (cfS P S) := by
  intro f vs h k hk
  unfold cfS at hk
  split at hk
  · rename_i e
    have := (Classical.choose_spec e).1
    refine ⟨_, _, fun k' => ?_, this.1, this.2.1, this.2.2⟩
    · unfold cfS; rw [dif_pos e]
  · cases hk
/-- a call: what comes of it is one value, one state, of which the specification holds -/
theorem cfS_call {P : Program} {S : Spec} {f : FuncId} {vs : List V} {h : H} (a : FnOk P f vs h (S f vs h)) : ∃ v h', (∀ k, cfS P S f vs h k = k v h') ∧ S f vs h v h' := by
  have e : ∃ r : V × H, FnRes P f vs h r.1 r.2 ∧ S f vs h r.1 r.2 := by
    obtain ⟨v, h', a1, a2⟩ := a
    exact ⟨(v, h'), a1, a2⟩
  exact ⟨_, _, fun k => by unfold cfS; rw [dif_pos e], (Classical.choose_spec e).2⟩
section
variable {P : Program} {nt : Nat} {t : F} {h : H} {K : X → F → H → Prop}
theorem Ok.region {S : Spec} {ops : List CO} {t' : F} {h' : H} (e : ∀ k : F → H → Bool, execOps (cfS P S) ops t h k = k t' h') (k : K .normal t' h') : Ok P nt (.region ops) t h K := by
  refine ⟨.normal, t', h', by_scopes _ fun c e' hs => ?_, k⟩
  cases c with
  | region id os draw =>
    have e1 : compRegion P nt os.toList draw = .region ops := e'
    unfold compRegion at e1
    split at e1
    · cases e1
      obtain ⟨t1, h1, a1, a2, a3, a4⟩ := ops_ok (cfS_ok P S) (fun _ => true) os.toList 0 (by simp) t h (fun _ _ => true) (e _)
      have hth : t1 = t' ∧ h1 = h' := by
        have := (a1 fun t2 h2 => @decide (t2 = t1 ∧ h2 = h1) (Classical.propDecidable _))
        rw [e] at this
        simp at this
        exact ⟨this.1.symm, this.2.symm⟩
      obtain ⟨rfl, rfl⟩ := hth
      refine ⟨a2, a3, fun ρ a w w0 Q A R hQ => wp_region ?_⟩
      have := a4 ρ a w w0 Q A R hQ
      rwa [show List.range' 0 os.toList.length = List.range os.size by rw [List.range_eq_range']; simp] at this
    · split at e1 <;> cases e1
  | scope d => exact absurd rfl (hs d)
  | _ => cases e'
theorem Ok.draws {S : Spec} (hm : P.follows .mixedOrders = true) {ops : List CO} {t' : F} {h' : H} (e : ∀ k : F → H → Bool, execDr (cfS P S) ops t h k = k t' h') (k : K .normal t' h') : Ok P nt (.draws ops) t h K := by
  refine ⟨.normal, t', h', by_scopes _ fun c e' hs => ?_, k⟩
  cases c with
  | region id os draw =>
    have e1 : compRegion P nt os.toList draw = .draws ops := e'
    unfold compRegion at e1
    split at e1
    · cases e1
    · split at e1
      · rename_i hd
        cases e1
        obtain ⟨t1, h1, a1, a2, a3, a4⟩ := draws_ok hm (cfS_ok P S) hd (e fun _ _ => true)
        have hth : t1 = t' ∧ h1 = h' := by
          have := (a1 fun t2 h2 => @decide (t2 = t1 ∧ h2 = h1) (Classical.propDecidable _))
          rw [e] at this
          simp at this
          exact ⟨this.1.symm, this.2.symm⟩
        obtain ⟨rfl, rfl⟩ := hth
        exact ⟨a2, a3, fun ρ a w w0 Q A R hQ => a4 ρ a w w0 id Q A R hQ⟩
      · cases e1
  | scope d => exact absurd rfl (hs d)
  | _ => cases e'
end
/-- A FUNCTION: its body from its arguments on -/
theorem fn_ok {P : Program} {f : FuncId} {fn : Func} {body : Code} {cc : CC} {rs : List Rs} {vs : List V} {h : H} {K : V → H → Prop} (hfn : P.funcs.toList[f]? = some fn) (hb : fn.body = some body) (hnm : (fn.name == "runtime.NumGoroutine") = false)
    (hcc : comp P fn.ntmps body = cc) (hrs : fn.results.toList.map (rsOf P) = rs) (hl1 : vs.length ≤ fn.ntmps) (hl2 : vs.length ≤ 512)
    (ok : Ok P fn.ntmps cc (slotsF vs 0 F.zero) h fun x t' h' => match x with
      | .exit _ => False
      | _ => ∃ us, (∀ k : List V → Bool, resK rs t' h' k = k us) ∧ K (one us) h') : FnOk P f vs h K := by
  obtain ⟨x, t', h', s, k⟩ := ok
  obtain ⟨x2, x3, x4⟩ := s body hcc
  have hfn' : P.funcs[f]? = some fn := by simpa using hfn
  have hx : (x = .normal ∨ x = .ret) ∧ ∃ us, (∀ k : List V → Bool, resK rs t' h' k = k us) ∧ K (one us) h' := by
    cases x with
    | exit id => exact k.elim
    | normal => exact ⟨.inl rfl, k⟩
    | ret => exact ⟨.inr rfl, k⟩
  obtain ⟨r2, us, r1, kk⟩ := hx
  obtain ⟨us', q1, q2⟩ := results_ok (nt := fn.ntmps) (fn := fn) (P := P) (t := t') (h := h') (k := fun _ => true) (by rw [hrs, r1])
  have hus : us' = us := by
    have := q1 fun u => @decide (u = us') (Classical.propDecidable _)
    rw [hrs, r1] at this
    simp at this
    exact this.symm
  subst hus
  refine ⟨one us', h', ⟨x2, x3, fun ρ w w0 args hargs R => ?_⟩, kk⟩
  have hal := hargs.length
  obtain ⟨t0, s1, s2, s3⟩ := slots_ok vs 0 F.zero (fun _ => true) (by omega)
  have ht0 : t0 = slotsF vs 0 F.zero := by
    have := s1 fun u => @decide (u = t0) (Classical.propDecidable _)
    rw [slots_slotsF] at this
    simp at this
    exact this.symm
  constructor
  · have hp : (program : Sem Program).run P w = .ok P w := rfl
    unfold callFunc
    simp only [Sem.run_bind, hp, Result.andThen_ok, hfn', hnm, Bool.false_eq_true, if_false, hb, Option.isNone_some]
    rfl
  · refine calls_of_wp hfn' hb ?_
    have A0 : ARel ρ fn.ntmps t0 { tmps := args.toArray ++ Array.replicate (fn.ntmps - args.toArray.size) undef, defers := [] } := by
      refine ⟨rfl, by simp; omega, fun m hm => ?_⟩
      by_cases hmv : m < vs.length
      · have hv : vs[m]? = some (vs[m]'hmv) := by simp
        obtain ⟨y, y1, y2⟩ := hargs.get hv
        have := s2 m _ hv
        rw [Nat.zero_add] at this
        rw [this]
        have hy : (args.toArray ++ Array.replicate (fn.ntmps - args.toArray.size) undef).getD m undef = y := by
          have hma : m < args.length := by omega
          rw [Array.getD_eq_getD_getElem?, Array.getElem?_append_left (by simpa using hma)]
          simp [y1]
        rw [hy]; exact y2
      · rw [s3 m hm (.inr (by omega)), zero_slot]; trivial
    rw [ht0] at A0
    refine x4 ρ _ w w0 _ A0 R fun ρ' a' w' hle A' R' => ?_
    obtain ⟨y, y1, y2⟩ := q2 ρ' a' w' w0 A' R'
    rcases r2 with rfl | rfl
    · exact ⟨A'.defers, y, y2, y, rfl, ρ', hle, y1, R'⟩
    · exact ⟨A'.defers, y, y2, y, rfl, ρ', hle, y1, R'⟩
/-- a function that the evaluator ran -/
theorem FnOk.of_pure {P : Program} {f : FuncId} (p : PureTrue P f) (h : H) : FnOk P f [] h fun v h' => v = .b true ∧ h' = h := by
  refine ⟨.b true, h, ⟨KeepF.refl h, Nat.le_refl _, fun ρ w w0 args hargs R => ?_⟩, rfl, rfl⟩
  have ha : args = [] := by cases args <;> first | rfl | exact hargs.elim
  subst ha
  obtain ⟨p1, p2⟩ := p w
  refine ⟨p1, p2.mono fun e w' he => ?_⟩
  obtain ⟨rfl, s1, s2, s3, s4, s5⟩ := he
  exact ⟨_, rfl, ρ, Ext.refl _ ρ, rfl, R.grow s1 s2 s3 s4 s5⟩
end Go.Ev

set_option linter.all false
namespace Go.Ev
open Go
structure Ops (P : Program) (S : Spec) (l : List CO) (t : F) (h : H) (K : F → H → Prop) : Prop where
  run : ∃ t' h', (∀ k, execOps (cfS P S) l t h k = k t' h') ∧ K t' h'
structure Drs (P : Program) (S : Spec) (l : List CO) (t : F) (h : H) (K : F → H → Prop) : Prop where
  run : ∃ t' h', (∀ k, execDr (cfS P S) l t h k = k t' h') ∧ K t' h'
section
variable {P : Program} {S : Spec} {nt : Nat} {l : List CO} {t : F} {h : H} {K : F → H → Prop}
theorem Ok.ops {K : X → F → H → Prop} (k : Ops P S l t h (K .normal)) : Ok P nt (.region l) t h K := by
  obtain ⟨t', h', a1, a2⟩ := k
  exact Ok.region a1 a2
theorem Ops.nil (k : K t h) : Ops P S [] t h K := ⟨t, h, fun _ => rfl, k⟩
theorem Drs.nil (k : K t h) : Drs P S [] t h K := ⟨t, h, fun _ => rfl, k⟩
theorem Ops.op {n : Nat} {b : Bool} {r : Run} {v : V} {h1 : H} (e : ∀ k, r (cfS P S) t h k = k v h1) (k : Ops P S l (put n v t) h1 K) : Ops P S (.mk .none (.some (slOf n)) b (.mk r) :: l) t h K := by
  obtain ⟨t', h', a1, a2⟩ := k
  refine ⟨t', h', fun k => ?_, a2⟩
  show r (cfS P S) t h (fun v h => sPut (slOf n) v t fun t => execOps (cfS P S) l t h k) = _
  rw [e, sPut_put, a1]
theorem Ops.op0 {b : Bool} {r : Run} {v : V} {h1 : H} (e : ∀ k, r (cfS P S) t h k = k v h1) (k : Ops P S l t h1 K) : Ops P S (.mk .none .none b (.mk r) :: l) t h K := by
  obtain ⟨t', h', a1, a2⟩ := k
  refine ⟨t', h', fun k => ?_, a2⟩
  show r (cfS P S) t h (fun v h => execOps (cfS P S) l t h k) = _
  rw [e, a1]
theorem Ops.guard {g n : Nat} {w q : Bool} {b : Bool} {r : CR} (e : get g t = .b q) (k1 : q = w → Ops P S (.mk .none (.some (slOf n)) b r :: l) t h K) (k2 : q = (!w) → Ops P S l (put n (.tu []) t) h K) :
    Ops P S (.mk (.some (slOf g) w) (.some (slOf n)) b r :: l) t h K := by
  have e0 : ∀ k, execOps (cfS P S) (.mk (.some (slOf g) w) (.some (slOf n)) b r :: l) t h k = vG (get g t) w fun x => opGo x r (.some (slOf n)) (cfS P S) (execOps (cfS P S) l) t h k := fun _ => rfl
  have e1 : ∀ f, vG (.b q) w f = f (xor (xor q w) true) := fun _ => rfl
  by_cases hq : q = w
  · obtain ⟨t', h', a1, a2⟩ := k1 hq
    refine ⟨t', h', fun k => ?_, a2⟩
    rw [e0, e, e1, hq]
    have : xor (xor w w) true = true := by cases w <;> rfl
    rw [this]
    exact a1 k
  · have hq' : q = !w := by cases q <;> cases w <;> simp_all
    obtain ⟨t', h', a1, a2⟩ := k2 hq'
    refine ⟨t', h', fun k => ?_, a2⟩
    rw [e0, e, e1, hq']
    have : xor (xor (!w) w) true = false := by cases w <;> rfl
    rw [this]
    show sPut (slOf n) (.tu []) t (fun t => execOps (cfS P S) l t h k) = _
    rw [sPut_put, a1]
theorem Ops.g1 {g n : Nat} {w : Bool} {b : Bool} {r : CR} (e : get g t = .b w) (k : Ops P S (.mk .none (.some (slOf n)) b r :: l) t h K) : Ops P S (.mk (.some (slOf g) w) (.some (slOf n)) b r :: l) t h K :=
  Ops.guard e (fun _ => k) fun h => by cases w <;> cases h
theorem evalsK_eq (t : F) (k : List V → Bool) : ∀ os : List O, evalsK os t k = k (os.map fun o => oV o t) := by
  intro os
  induction os generalizing k with
  | nil => rfl
  | cons o os ih =>
    have e : evalsK (o :: os) t k = oK o t fun v => evalsK os t fun vs => k (v :: vs) := rfl
    rw [e, oK_eq, ih]; rfl
/-- a call: by the function's specification -/
theorem Ops.call {n : Nat} {b : Bool} {f : FuncId} {args : List O} {vs : List V} (e : args.map (fun o => oV o t) = vs) (hf : FnOk P f vs h (S f vs h)) (k : ∀ v h1, S f vs h v h1 → Ops P S l (put n v t) h1 K) :
    Ops P S (.mk .none (.some (slOf n)) b (.mk (doCall f args)) :: l) t h K := by
  obtain ⟨v, h1, c1, c2⟩ := cfS_call hf
  refine Ops.op (v := v) (h1 := h1) (fun k => ?_) (k v h1 c2)
  show evalsK args t (fun vs => cfS P S f vs h k) = _
  rw [evalsK_eq, e, c1]
theorem Drs.op {n : Nat} {r : Run} {v : V} {h1 : H} (e : ∀ k, r (cfS P S) t (reFloor h) k = k v h1) (k : Drs P S l (put n v t) (unFloor h h1) K) : Drs P S (.mk .none (.some (slOf n)) false (.mk r) :: l) t h K := by
  obtain ⟨t', h', a1, a2⟩ := k
  refine ⟨t', h', fun k => ?_, a2⟩
  show r (cfS P S) t (reFloor h) (fun v h2 => sPut (slOf n) v t fun t => execDr (cfS P S) l t (unFloor h h2) k) = _
  rw [e, sPut_put, a1]
theorem Drs.guard {g n : Nat} {w q : Bool} {b : Bool} {r : CR} (e : get g t = .b q) (k1 : q = w → Drs P S (.mk .none (.some (slOf n)) b r :: l) t h K) (k2 : q = (!w) → Drs P S l (put n (.tu []) t) h K) :
    Drs P S (.mk (.some (slOf g) w) (.some (slOf n)) b r :: l) t h K := by
  have e0 : ∀ k, execDr (cfS P S) (.mk (.some (slOf g) w) (.some (slOf n)) b r :: l) t h k = vG (get g t) w fun x => drGo x b r (.some (slOf n)) (cfS P S) (execDr (cfS P S) l) t h k := fun _ => rfl
  have e1 : ∀ f, vG (.b q) w f = f (xor (xor q w) true) := fun _ => rfl
  by_cases hq : q = w
  · obtain ⟨t', h', a1, a2⟩ := k1 hq
    refine ⟨t', h', fun k => ?_, a2⟩
    rw [e0, e, e1, hq]
    have : xor (xor w w) true = true := by cases w <;> rfl
    rw [this]
    exact a1 k
  · have hq' : q = !w := by cases q <;> cases w <;> simp_all
    obtain ⟨t', h', a1, a2⟩ := k2 hq'
    refine ⟨t', h', fun k => ?_, a2⟩
    rw [e0, e, e1, hq']
    have : xor (xor (!w) w) true = false := by cases w <;> rfl
    rw [this]
    show sPut (slOf n) (.tu []) t (fun t => execDr (cfS P S) l t h k) = _
    rw [sPut_put, a1]
theorem Drs.g1 {g n : Nat} {w : Bool} {b : Bool} {r : CR} (e : get g t = .b w) (k : Drs P S (.mk .none (.some (slOf n)) b r :: l) t h K) : Drs P S (.mk (.some (slOf g) w) (.some (slOf n)) b r :: l) t h K :=
  Drs.guard e (fun _ => k) fun h => by cases w <;> cases h
theorem Drs.call {n : Nat} {f : FuncId} {args : List O} {vs : List V} (e : args.map (fun o => oV o t) = vs) (hf : FnOk P f vs (reFloor h) (S f vs (reFloor h))) (k : ∀ v h1, S f vs (reFloor h) v h1 → Drs P S l (put n v t) (unFloor h h1) K) :
    Drs P S (.mk .none (.some (slOf n)) false (.mk (doCall f args)) :: l) t h K := by
  obtain ⟨v, h1, c1, c2⟩ := cfS_call hf
  refine Drs.op (v := v) (h1 := h1) (fun k => ?_) (k v h1 c2)
  show evalsK args t (fun vs => cfS P S f vs (reFloor h) k) = _
  rw [evalsK_eq, e, c1]
end
section
variable {K' : F → H → Prop} {K : X → F → H → Prop} {t : F} {h : H} {id j : Nat}
theorem Out_n : Out id K .normal t h = K .normal t h := rfl
theorem Out_e : Out id K (.exit j) t h = if j = id then K .normal t h else K (.exit j) t h := rfl
theorem Out_r : Out id K .ret t h = K .ret t h := rfl
end
section
variable (cf : CallF) (t : F) (h : H) (k : V → H → Bool) (o x y c : O)
theorem ev_move : doMove o cf t h k = k (oV o t) h := by simp only [doMove, oK_eq]
theorem ev_pick : doPick c x y cf t h k = vB (oV c t) fun q => k (cond q (oV x t) (oV y t)) h := by
  simp only [doPick, oE_eq, oK_eq]
  congr 1; funext q; cases q <;> rfl
theorem ev_bin (f : BinF) : bin2 f x y cf t h k = vI (oV x t) fun kd a => vI (oV y t) fun kd' b => ifK (kdEq kd kd') fun _ => f kd a b fun v => k v h := by simp only [bin2, oE_eq]
theorem ev_not : doNot x cf t h k = vB (oV x t) fun a => k (.b (!a)) h := by simp only [doNot, oE_eq, fB_eq]
theorem ev_bool (ne : Bool) : doBool ne x y cf t h k = vB (oV x t) fun a => vB (oV y t) fun b => k (.b (xor ne (xor (xor a b) true))) h := by simp only [doBool, oE_eq, fB_eq]
theorem ev_extract (j : Nat) : doExtract j x cf t h k = vT (oV x t) fun vs => optK (vs[j]?) fun v => k v h := by simp only [doExtract, oE_eq, forceV_eq]
theorem ev_lenS : doLenS x cf t h k = vS (oV x t) fun n _ => k (.i .i64 (.ofNat n)) h := by simp only [doLenS, oE_eq]
theorem ev_load : doLoad o cf t h k = vP (oV o t) fun id g off fin => load1 h id g off fin fun v => k v h := by simp only [doLoad, oE_eq]
theorem ev_loadA (size : Nat) : doLoadA size o cf t h k = vP (oV o t) fun id g off fin => loadN h id g off fin size fun vs => k (.a vs) h := by simp only [doLoadA, oE_eq]
theorem ev_fieldAddr (d : Nat) : doFieldAddr d o cf t h k = vP (oV o t) fun id g off fin => k (.p id g (off + d) fin) h := by simp only [doFieldAddr, oE_eq, fN_eq]; rfl
theorem ev_field (d : Nat) : doField d o cf t h k = vA (oV o t) fun cs => optK (cs[d]?) fun v => k v h := by simp only [doField, oE_eq, forceV_eq]
theorem ev_fieldA (d size : Nat) : doFieldA d size o cf t h k = vA (oV o t) fun cs => k (.a ((cs.drop d).take size)) h := by simp only [doFieldA, oE_eq]
theorem ev_nilCheck : doNilCheck o cf t h k = vP (oV o t) fun id g off fin => k (.p id g off fin) h := by simp only [doNilCheck, oE_eq]
theorem ev_min : doMin x y cf t h k = vI (oV x t) fun kd a => vI (oV y t) fun kd' b => ifK (kdEq kd kd') fun _ => k (.i kd (min a b)) h := by
  simp only [doMin, oE_eq, ltI_eq]
  congr 1; funext kd a; congr 1; funext kd' b
  congr 1; funext _
  by_cases hba : b < a
  · simp [hba, boolK]; rw [Int.min_eq_right (by omega)]
  · simp [hba, boolK]; rw [Int.min_eq_left (by omega)]
theorem ev_max : doMax x y cf t h k = vI (oV x t) fun kd a => vI (oV y t) fun kd' b => ifK (kdEq kd kd') fun _ => k (.i kd (max a b)) h := by
  simp only [doMax, oE_eq, ltI_eq]
  congr 1; funext kd a; congr 1; funext kd' b
  congr 1; funext _
  by_cases hba : a < b
  · simp [hba, boolK]; rw [Int.max_eq_right (by omega)]
  · simp [hba, boolK]; rw [Int.max_eq_left (by omega)]
end
section
variable (kd : IntKind) (a b : Int) (k : V → Bool)
theorem f_add : fAdd kd a b k = k (.i kd (kd.wrap (a + b))) := wrapF_eq _ _ _
theorem f_sub : fSub kd a b k = k (.i kd (kd.wrap (a - b))) := wrapF_eq _ _ _
theorem f_mul : fMul kd a b k = k (.i kd (kd.wrap (a * b))) := wrapF_eq _ _ _
theorem f_lss : fLss kd a b k = k (.b (decide (a < b))) := by simp only [fLss, fB_eq, ltI_eq]
theorem f_gtr : fGtr kd a b k = k (.b (decide (b < a))) := by simp only [fGtr, fB_eq, ltI_eq]
theorem f_leq : fLeq kd a b k = k (.b (decide (a ≤ b))) := by
  simp only [fLeq, fB_eq, ltI_eq]; congr 2
  by_cases h : b < a
  · simp [h]
  · simp [h]; omega
theorem f_geq : fGeq kd a b k = k (.b (decide (b ≤ a))) := by
  simp only [fGeq, fB_eq, ltI_eq]; congr 2
  by_cases h : a < b
  · simp [h]
  · simp [h]; omega
theorem f_eql : fEql kd a b k = k (.b (decide (a = b))) := by simp only [fEql, fB_eq, eqI_eq]; congr 2
theorem f_neq : fNeq kd a b k = k (.b (!decide (a = b))) := by simp only [fNeq, fB_eq, eqI_eq]; congr 2
end
theorem kdEq_self (kd : IntKind) : kdEq kd kd = true := by cases kd <;> rfl
theorem wrap_i64 {n : Int} (h1 : -9223372036854775808 ≤ n) (h2 : n ≤ 9223372036854775807) : IntKind.i64.wrap n = n := by
  cases n with
  | ofNat m => exact wrap_small .i64 m (by show m ≤ 9223372036854775807; simp at h2; omega)
  | negSucc m =>
    simp only [IntKind.wrap, IntKind.bits, IntKind.signed]
    have e : Int.negSucc m % (2 ^ 64 : Int) = 2 ^ 64 - (m + 1) := by omega
    simp [e]
    omega
noncomputable def cellB (blk : Option Blk) (g off : Nat) : Option V := match blk with
  | some b => if b.min ≤ g then b.cells.getN off else none
  | none => none
noncomputable def cell (h : H) (id : B) (g off : Nat) : Option V := cellB (h.heap.get id) g off
theorem load1_cell {h : H} {id : B} {g off fin : Nat} {v : V} (hc : cell h id g off = some v) (hf : off < fin) (k : V → Bool) : load1 h id g off fin k = k v := by
  obtain ⟨next, floor, heap⟩ := h
  unfold cell cellB at hc
  simp only at hc
  split at hc
  · rename_i blk hb
    obtain ⟨cur, min, size, cells, el, fr⟩ := blk
    simp only at hc
    split at hc
    · rename_i hm
      have h1 : Nat.ble min g = true := by rw [Nat.ble_eq]; exact hm
      have h2 : Nat.ble (Nat.succ off) fin = true := by rw [Nat.ble_eq]; exact hf
      simp only [load1, hK_mk, hb, optK_some, blkK_mk, h1, h2, ifK_true, hc, forceV_eq]
    · cases hc
  · cases hc
theorem getList_cells (cells : T V) : ∀ (n off : Nat) (vs : List V) (k : List V → Bool), vs.length = n → (∀ i v, vs[i]? = some v → cells.getN (off + i) = some v) → getList n cells off k = k vs
  | 0, off, vs, k, hl, _ => by
    have : vs = [] := List.eq_nil_of_length_eq_zero hl
    subst this; rfl
  | n + 1, off, vs, k, hl, hv => by
    cases vs with
    | nil => simp at hl
    | cons v vs =>
      have e : getList (n + 1) cells off k = optK (cells.getN off) fun v => getList n cells (off + 1) fun vs => k (v :: vs) := rfl
      have h0 := hv 0 v rfl
      rw [Nat.add_zero] at h0
      rw [e, h0, optK_some, getList_cells cells n (off + 1) vs _ (by simpa using hl) fun i u hu => by have := hv (i + 1) u (by simpa using hu); rwa [show off + (i + 1) = off + 1 + i by omega] at this]
/-- some cells, one behind the other -/
def Row (h : H) (id : B) (g off : Nat) (vs : List V) : Prop := (vs ≠ [] → ∃ b, h.heap.get id = some b ∧ b.min ≤ g) ∧ ∀ i v, vs[i]? = some v → cell h id g (off + i) = some v
theorem loadN_row {h : H} {id : B} {g off fin n : Nat} {vs : List V} (hr : Row h id g off vs) (hn : vs.length = n) (hne : vs ≠ []) (hf : off + n ≤ fin) (k : List V → Bool) : loadN h id g off fin n k = k vs := by
  obtain ⟨next, floor, heap⟩ := h
  obtain ⟨hr1, hc⟩ := hr
  obtain ⟨b, hb, hm⟩ := hr1 hne
  obtain ⟨cur, min, size, cells, el, fr⟩ := b
  have h1 : Nat.ble min g = true := by rw [Nat.ble_eq]; exact hm
  have h2 : Nat.ble (Nat.add off n) fin = true := by rw [Nat.ble_eq]; exact hf
  simp only [loadN, hK_mk]
  have hb' : heap.get id = some ⟨cur, min, size, cells, el, fr⟩ := hb
  simp only [hb', optK_some, blkK_mk, h1, h2, ifK_true]
  refine getList_cells cells n off vs k hn fun i v hv => ?_
  have := hc i v hv
  unfold cell cellB at this
  simp only [hb'] at this
  rwa [if_pos hm] at this
theorem setN_fine : ∀ (f n : Nat) (x : V) (t : T V) (k : T V → Bool), n + 1 < 2 ^ f → (∀ t', k t' = true) → T.setN f x t n k = true := by
  intro f
  induction f with
  | zero => intro n x t k h; simp at h
  | succ f ih =>
    intro n x t k h hk
    cases n with
    | zero => cases t <;> exact hk _
    | succ m =>
      have e : T.setN (f + 1) x t (m + 1) k = nS2 (m % 2) m (T.setN f) x t k := rfl
      have hm : m / 2 + 1 < 2 ^ f := by rw [Nat.pow_succ] at h; omega
      rw [e]
      rcases Nat.mod_two_eq_zero_or_one m with hp | hp
      · have e2 : nS2 (m % 2) m (T.setN f) x t k = nO t (T.setN f) x (m / 2) k := by rw [hp]; rfl
        rw [e2]
        cases t with
        | o => exact ih _ _ _ _ hm fun _ => hk _
        | n l v r => exact ih _ _ _ _ hm fun _ => hk _
      · have e2 : nS2 (m % 2) m (T.setN f) x t k = nI t (T.setN f) x (m / 2) k := by rw [hp]; rfl
        rw [e2]
        cases t with
        | o => exact ih _ _ _ _ hm fun _ => hk _
        | n l v r => exact ih _ _ _ _ hm fun _ => hk _
theorem setList_fine : ∀ (vs : List V) (n : Nat) (t : T V), n + vs.length < 2 ^ 38 → ∃ t', (∀ k, setList vs n t k = k t') ∧ (∀ i v, vs[i]? = some v → t'.getN (n + i) = some v) ∧ ∀ m, m < n ∨ n + vs.length ≤ m → t'.getN m = t.getN m := by
  have fine : ∀ (vs : List V) (n : Nat) (t : T V) (k : T V → Bool), n + vs.length < 2 ^ 38 → (∀ t', k t' = true) → setList vs n t k = true := by
    intro vs
    induction vs with
    | nil => intro n t k _ hk; exact hk t
    | cons v vs ih =>
      intro n t k hl hk
      exact setN_fine 40 n v t _ (by simp at hl; omega) fun t' => ih (n + 1) t' k (by simp at hl; omega) hk
  intro vs n t hl
  exact setList_ok vs n t (fun _ => true) (fine vs n t _ hl fun _ => rfl)
/-- what of a state stays: all blocks that there are, but those of which p holds -/
structure Stay (p : B → Prop) (h h' : H) : Prop where
  floor : h'.floor = h.floor
  next : B.val h.next ≤ B.val h'.next
  get : ∀ id, B.val id < B.val h.next → ¬ p id → h'.heap.get id = h.heap.get id
theorem Stay.refl (p : B → Prop) (h : H) : Stay p h h := ⟨rfl, Nat.le_refl _, fun _ _ _ => rfl⟩
theorem Stay.trans {p : B → Prop} {a b c : H} (x : Stay p a b) (y : Stay p b c) : Stay p a c :=
  ⟨y.floor.trans x.floor, Nat.le_trans x.next y.next, fun id h1 h2 => (y.get id (Nat.lt_of_lt_of_le h1 x.next) h2).trans (x.get id h1 h2)⟩
theorem Stay.mono {p q : B → Prop} {a b : H} (x : Stay p a b) (h : ∀ id, B.val id < B.val a.next → p id → q id) : Stay q a b := ⟨x.floor, x.next, fun id h1 h2 => x.get id h1 fun h3 => h2 (h id h1 h3)⟩
def nowhere : B → Prop := fun _ => False
theorem Stay.cell {p : B → Prop} {h h' : H} (x : Stay p h h') {id : B} (h1 : B.val id < B.val h.next) (h2 : ¬ p id) (g off : Nat) : cell h' id g off = cell h id g off := by
  unfold Ev.cell; rw [x.get id h1 h2]
/-- a new block -/
theorem alloc_new (el : Nat) (cs : List V) (h : H) (hl : cs.length < 2 ^ 38) : ∃ h', (∀ k, alloc el cs h k = k h.next h') ∧ Stay nowhere h h' ∧ B.val h'.next = B.val h.next + 1 ∧
    (∃ b, h'.heap.get h.next = some b ∧ b.min = 0 ∧ b.cur = 0 ∧ b.size = cs.length ∧ b.el = el ∧ b.fr = 0 ∧ ∀ i v, cs[i]? = some v → b.cells.getN i = some v) := by
  obtain ⟨next, floor, heap⟩ := h
  obtain ⟨tr, t1, t2, t3⟩ := setList_fine cs 0 .o (by omega)
  obtain ⟨hp, s1, s2, s3⟩ := setK_ok next (⟨0, 0, cs.length, tr, el, 0⟩ : Blk) heap
  obtain ⟨nx, n1, n2⟩ := incK_ok next
  refine ⟨⟨nx, floor, hp⟩, fun k => ?_, ⟨rfl, by show B.val next ≤ B.val nx; omega, fun id h1 _ => s3 id fun e => by rw [e] at h1; exact absurd h1 (Nat.lt_irrefl _)⟩, n2, ⟨0, 0, cs.length, tr, el, 0⟩, s2, rfl, rfl, rfl, rfl, rfl, fun i v hv => ?_⟩
  · show fN cs.length (fun sz => setList cs 0 .o fun t => T.setK next ⟨0, 0, sz, t, el, 0⟩ heap fun heap => B.incK next fun next' => k next ⟨next', floor, heap⟩) = _
    rw [fN_eq, t1, s1, n1]
  · have := t2 i v hv
    rwa [Nat.zero_add] at this
/-- the slice v reads as the cells xs (elements of one cell) -/
def Lst (h : H) (v : V) (xs : List V) : Prop :=
  (v = .l0 ∧ xs = []) ∨ ∃ id g off fin cap, v = .l id g off xs.length fin cap ∧ off + xs.length ≤ fin ∧ B.val id < B.val h.next ∧ Row h id g off xs
def lid : V → B | .l id _ _ _ _ _ => id | _ => .h
def lg : V → Nat | .l _ g _ _ _ _ => g | _ => 0
def loff : V → Nat | .l _ _ off _ _ _ => off | _ => 0
def lfin : V → Nat | .l _ _ _ _ fin _ => fin | _ => 0
noncomputable def lenV (v : V) (k : Nat → Bool) : Bool := vL v (fun _ => k 0) fun _ _ _ n _ _ => k n
noncomputable def idxV (size : Nat) (v : V) (n : Nat) (k : V → Bool) : Bool := vL v (fun _ => false) fun id g off len fin _ => ifK (Nat.ble (n + 1) len) fun _ => k (.p id g (off + n * size) fin)
theorem ev_len (x : O) (cf : CallF) (t : F) (h : H) (k : V → H → Bool) : doLen x cf t h k = lenV (oV x t) fun n => k (.i .i64 (n : Int)) h := by simp only [doLen, oE_eq]; rfl
theorem ev_idx (size : Nat) (o x : O) (cf : CallF) (t : F) (h : H) (k : V → H → Bool) : doIndexAddr size o x cf t h k = vI (oV x t) fun _ n => natK n fun n => idxV size (oV o t) n fun p => k p h := by
  have no : ∀ u : V, (vI u fun _ n => natK n fun _ => false) = false := by
    intro u
    cases u <;> first | rfl | (rename_i kd n; cases n <;> rfl)
  simp only [doIndexAddr, oE_eq]
  generalize oV o t = v
  generalize oV x t = u
  have hn : ∀ w : V, (∀ z k, vL w z k = false) → (vI u fun _ n => natK n fun n => idxV size w n fun p => k p h) = false := by
    intro w hw
    have : (fun (_ : IntKind) (n : Int) => natK n fun n => idxV size w n fun p => k p h) = fun _ n => natK n fun _ => false := by
      funext _ n; congr 1; funext n; exact hw _ _
    rw [this]; exact no u
  cases v with
  | l id g off len fin cap => simp only [vL_l, fN_eq]; rfl
  | l0 =>
    have : (vI u fun _ n => natK n fun n => idxV size .l0 n fun p => k p h) = false := no u
    rw [this]; rfl
  | _ => rw [hn _ fun _ _ => rfl]; rfl
theorem natK_cast (i : Nat) (k : Nat → Bool) : natK (i : Int) k = k i := rfl
theorem Lst.len {h0 : H} {v : V} {xs : List V} (a : Lst h0 v xs) (k : Nat → Bool) : lenV v k = k xs.length := by
  rcases a with ⟨rfl, rfl⟩ | ⟨id, g, off, fin, cap, rfl, _⟩ <;> rfl
theorem Lst.idx {h0 : H} {v : V} {xs : List V} {i : Nat} (a : Lst h0 v xs) (hi : i < xs.length) (k : V → Bool) : idxV 1 v i k = k (.p (lid v) (lg v) (loff v + i) (lfin v)) := by
  rcases a with ⟨rfl, rfl⟩ | ⟨id, g, off, fin, cap, rfl, _⟩
  · simp at hi
  · have h1 : Nat.ble (i + 1) xs.length = true := by rw [Nat.ble_eq]; exact hi
    show ifK (Nat.ble (i + 1) xs.length) (fun _ => k (.p id g (off + i * 1) fin)) = _
    rw [h1, ifK_true, Nat.mul_one]; rfl
theorem load_lst {h : H} {v : V} {xs : List V} {i : Nat} {y : V} (a : Lst h v xs) (hy : xs[i]? = some y) (k : V → Bool) : load1 h (lid v) (lg v) (loff v + i) (lfin v) k = k y := by
  have hi := (List.getElem?_eq_some_iff.1 hy).1
  rcases a with ⟨rfl, rfl⟩ | ⟨id, g, off, fin, cap, rfl, h2, _, h4⟩
  · simp at hi
  · exact load1_cell (h4.2 i y hy) (by show off + i < fin; omega) k
theorem Row.stay {p : B → Prop} {h h' : H} {id : B} {g off : Nat} {vs : List V} (r : Row h id g off vs) (s : Stay p h h') (h1 : B.val id < B.val h.next) (h2 : ¬ p id) : Row h' id g off vs := by
  obtain ⟨r1, r2⟩ := r
  exact ⟨(fun hne => by obtain ⟨b, b1, b2⟩ := r1 hne; exact ⟨b, (s.get id h1 h2).trans b1, b2⟩), fun i v hv => (s.cell h1 h2 g (off + i)).trans (r2 i v hv)⟩
theorem Lst.stay {p : B → Prop} {h h' : H} {v : V} {xs : List V} (a : Lst h v xs) (s : Stay p h h') (hp : ∀ id g off n fin cap, v = .l id g off n fin cap → ¬ p id) : Lst h' v xs := by
  rcases a with ⟨rfl, rfl⟩ | ⟨id, g, off, fin, cap, rfl, h2, h3, h4⟩
  · exact .inl ⟨rfl, rfl⟩
  · exact .inr ⟨id, g, off, fin, cap, rfl, h2, Nat.lt_of_lt_of_le h3 s.next, h4.stay s h3 (hp _ _ _ _ _ _ rfl)⟩
theorem Lst.grow {h h' : H} {v : V} {xs : List V} (a : Lst h v xs) (s : Stay nowhere h h') : Lst h' v xs := a.stay s fun _ _ _ _ _ _ _ => id
/-- a slice of bools -/
def Bl (h : H) (v : V) (R : List Bool) : Prop := Lst h v (R.map V.b)
theorem Bl.grow {h h' : H} {v : V} {R : List Bool} (a : Bl h v R) (s : Stay nowhere h h') : Bl h' v R := Lst.grow a s
theorem Bl.len {h0 : H} {v : V} {R : List Bool} (a : Bl h0 v R) (k : Nat → Bool) : lenV v k = k R.length := by
  rw [Lst.len a]; simp
theorem Bl.idx {h0 : H} {v : V} {R : List Bool} {i : Nat} (a : Bl h0 v R) (hi : i < R.length) (k : V → Bool) : idxV 1 v i k = k (.p (lid v) (lg v) (loff v + i) (lfin v)) := Lst.idx a (by simpa using hi) k
theorem Bl.rd {h : H} {v : V} {R : List Bool} {i : Nat} (a : Bl h v R) (hi : i < R.length) (k : V → Bool) : load1 h (lid v) (lg v) (loff v + i) (lfin v) k = k (.b (R.getD i false)) :=
  load_lst a (by simp [hi]) k
/-- a slice of slices of bools -/
def Mx (h : H) (v : V) (M : List (List Bool)) : Prop := ∃ rows, Lst h v rows ∧ rows.length = M.length ∧ ∀ i r, rows[i]? = some r → Bl h r (M.getD i [])
theorem Mx.grow {h h' : H} {v : V} {M : List (List Bool)} (a : Mx h v M) (s : Stay nowhere h h') : Mx h' v M := by
  obtain ⟨rows, r1, r2, r3⟩ := a
  exact ⟨rows, r1.grow s, r2, fun i r hr => (r3 i r hr).grow s⟩
theorem Mx.len {h0 : H} {v : V} {M : List (List Bool)} (a : Mx h0 v M) (k : Nat → Bool) : lenV v k = k M.length := by
  obtain ⟨rows, r1, r2, r3⟩ := a
  rw [r1.len, r2]
theorem Mx.idx {h0 : H} {v : V} {M : List (List Bool)} {i : Nat} (a : Mx h0 v M) (hi : i < M.length) (k : V → Bool) : idxV 1 v i k = k (.p (lid v) (lg v) (loff v + i) (lfin v)) := by
  obtain ⟨rows, r1, r2, r3⟩ := a
  exact r1.idx (by omega) k
theorem Mx.rd {h : H} {v : V} {M : List (List Bool)} {i : Nat} (a : Mx h v M) (hi : i < M.length) : ∃ r, Bl h r (M.getD i []) ∧ ∀ k : V → Bool, load1 h (lid v) (lg v) (loff v + i) (lfin v) k = k r := by
  obtain ⟨rows, r1, r2, r3⟩ := a
  have hi' : i < rows.length := by omega
  have hr : rows[i]? = some rows[i] := by simp
  exact ⟨rows[i], r3 i _ hr, load_lst r1 hr⟩
theorem res_1 (n : Nat) (t : F) (h : H) (k : List V → Bool) : resK [Rs.tmp (slOf n)] t h k = k [get n t] := by
  show forceV (sGet (slOf n) t) (fun v => k [v]) = _
  rw [forceV_eq]; rfl
theorem res_2 (n m : Nat) (t : F) (h : H) (k : List V → Bool) : resK [Rs.tmp (slOf n), Rs.tmp (slOf m)] t h k = k [get n t, get m t] := by
  show forceV (sGet (slOf n) t) (fun v => forceV (sGet (slOf m) t) fun u => k [v, u]) = _
  rw [forceV_eq, forceV_eq]; rfl
theorem one_1 (v : V) : one [v] = v := rfl
theorem one_2 (v u : V) : one [v, u] = .tu [v, u] := rfl
theorem Row.grow {h h' : H} {id : B} {g off : Nat} {vs : List V} (r : Row h id g off vs) (s : Stay nowhere h h') (h1 : B.val id < B.val h.next) : Row h' id g off vs := r.stay s h1 fun h => h
theorem Ops.box {P : Program} {S : Spec} {l : List CO} {t : F} {h : H} {K : F → H → Prop} {n : Nat} {b : Bool} {el : Nat} {o : O} {v : V} (e : oV o t = v) (hk : knownV v = true) (hl : (cells v).length < 2 ^ 38)
    (k : ∀ h1 id, Stay nowhere h h1 → B.val id < B.val h1.next → B.val h.next ≤ B.val id → Row h1 id 0 0 (cells v) → Ops P S l (put n (.p id 0 0 (cells v).length) t) h1 K) : Ops P S (.mk .none (.some (slOf n)) b (.mk (doBox el o)) :: l) t h K := by
  obtain ⟨h1, a1, a2, a3, blk, b1, b2, b3, b4, b5, b6, b7⟩ := alloc_new el (cells v) h hl
  refine Ops.op (v := .p h.next 0 0 (cells v).length) (h1 := h1) (fun k => ?_) (k h1 h.next a2 (by omega) (Nat.le_refl _) ⟨fun _ => ⟨blk, b1, by omega⟩, fun i y hy => ?_⟩)
  · show doBox el o _ t h k = _
    simp only [doBox, oK_eq, e, hk, ifK_true, a1]
  · unfold Ev.cell cellB
    rw [b1]
    show (if blk.min ≤ 0 then blk.cells.getN (0 + i) else none) = some y
    rw [if_pos (by omega), Nat.zero_add]
    exact b7 i y hy
/-- A FUNCTION, as it is compiled -/
theorem fn_run {P : Program} {f : FuncId} {nt : Nat} {cc : CC} {rs : List Rs} {vs : List V} {h : H} {K : V → H → Prop} (hc : compFn P f = ⟨nt, cc, rs⟩) (hbad : cc ≠ .bad) (hl1 : vs.length ≤ nt) (hl2 : vs.length ≤ 512)
    (ok : Ok P nt cc (slotsF vs 0 F.zero) h fun x t' h' => match x with
      | .exit _ => False
      | _ => ∃ us, (∀ k : List V → Bool, resK rs t' h' k = k us) ∧ K (one us) h') : FnOk P f vs h K := by
  unfold compFn at hc
  split at hc
  · cases hc; exact absurd rfl hbad
  · rename_i fn hfn
    split at hc
    · rename_i b hb hnm
      cases hc
      exact fn_ok hfn hb hnm rfl rfl hl1 hl2 ok
    · cases hc; exact absurd rfl hbad
end Go.Ev

set_option linter.all false
namespace Go.Ev
open Go
noncomputable def nb : Nat → B
  | 0 => .h
  | n + 1 => Classical.choose (incK_ok (nb n))
theorem nb_val : ∀ n, B.val (nb n) = n + 1
  | 0 => rfl
  | n + 1 => by
    have := (Classical.choose_spec (incK_ok (nb n))).2
    show B.val (Classical.choose (incK_ok (nb n))) = _
    rw [this, nb_val n]
theorem nb_inj {m n : Nat} (h : nb m = nb n) : m = n := by
  have := congrArg B.val h
  rw [nb_val, nb_val] at this; omega
def csz (W : World) (n : Nat) : Nat := match W.heap[n]? with
  | some (.cells c _ _) => c.size
  | _ => 0
open Classical in
noncomputable def emb0 (W : World) : Emb := fun id g => if e : g = 0 ∧ ∃ n, n < W.heap.size ∧ id = nb n then some ⟨Classical.choose e.2, 0, csz W (Classical.choose e.2), csz W (Classical.choose e.2), none⟩ else none
theorem emb0_eq {W : World} {n : Nat} (h : n < W.heap.size) : emb0 W (nb n) 0 = some ⟨n, 0, csz W n, csz W n, none⟩ := by
  have e : (0 : Nat) = 0 ∧ ∃ m, m < W.heap.size ∧ nb n = nb m := ⟨rfl, n, h, rfl⟩
  unfold emb0
  rw [dif_pos e]
  have := nb_inj (Classical.choose_spec e.2).2
  rw [← this]
theorem emb0_inv {W : World} {id : B} {g : Nat} {L : Loc} (h : emb0 W id g = some L) : ∃ n, n < W.heap.size ∧ id = nb n ∧ g = 0 ∧ L = ⟨n, 0, csz W n, csz W n, none⟩ := by
  unfold emb0 at h
  split at h
  · rename_i e
    cases h
    exact ⟨_, (Classical.choose_spec e.2).1, (Classical.choose_spec e.2).2, e.1, rfl⟩
  · cases h
noncomputable def absV (W : World) : Value → V
  | .bool b => .b b
  | .int k n => .i k n
  | .string bs => .s bs.size (pk bs.data.toList)
  | .pointer none => .p0
  | .pointer (some ⟨b, off, none⟩) => open Classical in if b < W.heap.size then .p (nb b) 0 off (csz W b) else .u
  | .slice none 0 0 => .l0
  | .slice (some ⟨b, off, none⟩) (n + 1) cap => open Classical in if b < W.heap.size ∧ n + 1 ≤ cap ∧ cap < 18446744073709551616 then .l (nb b) 0 off (n + 1) (csz W b) (some cap) else .u
  | .slice (some _) 0 _ => open Classical in if 0 < W.heap.size then .l (nb 0) 0 0 0 0 none else .u
  | .nilFunc => .f0
  | .nilIface => .x0
  | .map none => .m0
  | _ => .u
theorem absV_rel (W : World) (x : Value) : VRel (emb0 W) (absV W x) x := by
  unfold absV
  split
  · rfl
  · rfl
  · rename_i bs
    refine ⟨bs, rfl, rfl, foldl_pk0 _⟩
  · rfl
  · split
    · rename_i h
      exact ⟨_, emb0_eq h, rfl, Nat.zero_le _, Nat.le_refl _⟩
    · trivial
  · rfl
  · split
    · rename_i h
      exact ⟨_, _, _, emb0_eq h.1, rfl, h.2.1, Nat.zero_le _, Nat.le_refl _, .inr rfl, (fun d hd _ => by cases hd; rfl), (fun hd => absurd hd (Unk.no h.2.2))⟩
    · trivial
  · split
    · rename_i h
      exact ⟨_, _, _, emb0_eq h, rfl, Nat.zero_le _, Nat.zero_le _, Nat.zero_le _, .inl ⟨rfl, .inl rfl⟩, (fun d hd => by cases hd), (fun _ => .inl ⟨rfl, rfl⟩)⟩
    · trivial
  · rfl
  · rfl
  · rfl
  · trivial
theorem tree_of (vs : List V) : ∃ t : T V, ∀ (i : Nat) v, vs[i]? = some v → t.getN i = some v := by
  have key : ∀ n, ∃ t : T V, ∀ (i : Nat) v, i < n → vs[i]? = some v → t.getN i = some v := by
    intro n
    induction n with
    | zero => exact ⟨.o, fun i v h => absurd h (Nat.not_lt_zero i)⟩
    | succ n ih =>
      obtain ⟨t, ht⟩ := ih
      cases hv : vs[n]? with
      | none => exact ⟨t, fun i v hi h => by
          by_cases e : i = n
          · subst e; rw [hv] at h; cases h
          · exact ht i v (by omega) h⟩
      | some x =>
        obtain ⟨t', h1, h2, h3⟩ := setN_ok (n + 2) x t n (fun _ => true) (setN_fine (n + 2) n x t _ (Nat.lt_trans (Nat.lt_succ_self _) Nat.lt_two_pow_self) fun _ => rfl)
        refine ⟨t', fun i v hi h => ?_⟩
        by_cases e : i = n
        · subst e; rw [hv] at h; cases h; exact h2
        · rw [h3 i e]; exact ht i v (by omega) h
  obtain ⟨t, ht⟩ := key vs.length
  exact ⟨t, fun i v h => ht i v (List.getElem?_eq_some_iff.1 h).1 h⟩
/-- what is known of the n-th block -/
def BlkAt (W : World) (n : Nat) (b : Blk) : Prop := b.cur = 0 ∧ b.size = csz W n ∧ match W.heap[n]? with
  | some (.cells c el fz) => b.min = 0 ∧ b.el = el ∧ b.fr = fz.2 + 2 ∧ ∀ (i : Nat) x, c[i]? = some x → b.cells.getN i = some (absV W x)
  | _ => b.min = 1
theorem blk_at (W : World) (n : Nat) : ∃ b, BlkAt W n b := by
  unfold BlkAt csz
  cases h : W.heap[n]? with
  | none => exact ⟨⟨0, 1, 0, .o, 0, 0⟩, rfl, rfl, rfl⟩
  | some o =>
    cases o with
    | cells c el fz =>
      obtain ⟨t, ht⟩ := tree_of (c.toList.map (absV W))
      refine ⟨⟨0, 0, c.size, t, el, fz.2 + 2⟩, rfl, rfl, rfl, rfl, rfl, fun i x hx => ht i _ ?_⟩
      simp [hx]
    | _ => exact ⟨⟨0, 1, 0, .o, 0, 0⟩, rfl, rfl, rfl⟩
theorem heap_of (W : World) : ∀ k, ∃ hp : T Blk, ∀ n, n < k → ∃ b, hp.get (nb n) = some b ∧ BlkAt W n b := by
  intro k
  induction k with
  | zero => exact ⟨.o, fun n h => absurd h (Nat.not_lt_zero n)⟩
  | succ k ih =>
    obtain ⟨hp, h⟩ := ih
    obtain ⟨b, hb⟩ := blk_at W k
    obtain ⟨hp', s1, s2, s3⟩ := setK_ok (nb k) b hp
    refine ⟨hp', fun n hn => ?_⟩
    by_cases e : n = k
    · subst e; exact ⟨b, s2, hb⟩
    · obtain ⟨b', h1, h2⟩ := h n (by omega)
      exact ⟨b', (s3 _ fun he => e (nb_inj he)).trans h1, h2⟩
/-- THE STATE THAT A CALL BEGINS IN -/
theorem start (W : World) : ∃ h : H, HRel (emb0 W) h W W ∧ ∀ n, n < W.heap.size → B.val (nb n) < B.val h.next ∧ B.val (nb n) < B.val h.floor ∧ ∃ b, h.heap.get (nb n) = some b ∧ BlkAt W n b := by
  obtain ⟨hp, hh⟩ := heap_of W W.heap.size
  refine ⟨⟨nb W.heap.size, nb W.heap.size, hp⟩, ⟨?_, ?_, ?_, Nat.le_refl _, fun _ _ => rfl, ?_, rfl, rfl, rfl, Nat.le_refl _, ?_, ?_⟩, fun n hn => ⟨by show B.val (nb n) < B.val (nb _); rw [nb_val, nb_val]; omega, by show B.val (nb n) < B.val (nb _); rw [nb_val, nb_val]; omega, hh n hn⟩⟩
  · intro id g L hL
    obtain ⟨n, hn, rfl, rfl, rfl⟩ := emb0_inv hL
    obtain ⟨b, b1, b2, b3, b4⟩ := hh n hn
    refine ⟨b, b1, by omega, hn, Nat.zero_le _, fun _ => by show csz W n ≤ b.size; omega, fun _ => b3.symm, fun hm => ?_⟩
    cases hx : W.heap[n]? with
    | none => rw [Array.getElem?_eq_none_iff] at hx; omega
    | some o =>
      rw [hx] at b4
      cases o with
      | cells c el fz =>
        obtain ⟨c1, c2, c3, c4⟩ := b4
        have hcs : csz W n = c.size := by unfold csz; rw [hx]
        refine ⟨c, el, ⟨c2.symm, fz, hx, ?_⟩, hcs.symm, by show csz W n - 0 ≤ csz W n; omega, fun i _ hi => ?_⟩
        · rw [c3]; exact .inr (Nat.le_refl _)
        · have hi' : i < c.size := by rw [← hcs]; exact hi
          have hxi : c[i]? = some (c[i]'hi') := by simp
          exact ⟨absV W c[i], c[i], c4 i _ hxi, by simpa using hxi, absV_rel W _⟩
      | _ => exact absurd hm (by rw [b4]; exact Nat.not_succ_le_zero 0)
  · intro id g L hL
    obtain ⟨n, hn, rfl, rfl, rfl⟩ := emb0_inv hL
    show B.val (nb n) < B.val (nb _)
    rw [nb_val, nb_val]; omega
  · intro id g L id' g' L' hL hL' hb
    obtain ⟨n, hn, rfl, rfl, rfl⟩ := emb0_inv hL
    obtain ⟨n', hn', rfl, rfl, rfl⟩ := emb0_inv hL'
    have : n = n' := hb
    subst this; exact ⟨rfl, rfl⟩
  · intro id g L hL hf
    obtain ⟨n, hn, rfl, rfl, rfl⟩ := emb0_inv hL
    have : B.val (nb W.heap.size) ≤ B.val (nb n) := hf
    rw [nb_val, nb_val] at this; omega
  · intro id L blk hL h2 h3
    obtain ⟨n, hn, rfl, _, rfl⟩ := emb0_inv hL
    obtain ⟨b, b1, b2, b3, b4⟩ := hh n hn
    have hbe : hp.get (nb n) = some blk := h2
    rw [b1] at hbe
    cases hbe
    have : blk.min ≤ 1 := by
      revert b4
      split
      · rintro ⟨e, _⟩; omega
      · intro e; omega
    omega
  · intro id g L blk ob hL h2 hg h3 h5
    obtain ⟨n, hn, rfl, _, rfl⟩ := emb0_inv hL
    cases h5
/-- where it begins -/
structure Start (W : World) (h : H) : Prop where
  rel : HRel (emb0 W) h W W
  blk : ∀ n, n < W.heap.size → B.val (nb n) < B.val h.next ∧ B.val (nb n) < B.val h.floor ∧ ∃ b, h.heap.get (nb n) = some b ∧ BlkAt W n b
theorem Start.cell {W : World} {h : H} (s : Start W h) {b off : Nat} {x : Value} (hx : W.cell? ⟨b, off, none⟩ = some x) : b < W.heap.size ∧ off < csz W b ∧ (∃ blk, h.heap.get (nb b) = some blk ∧ blk.min ≤ 0) ∧ Ev.cell h (nb b) 0 off = some (absV W x) := by
  simp only [World.cell?] at hx
  split at hx
  · rename_i c el fz hb
    have hlt : b < W.heap.size := (Array.getElem?_eq_some_iff.1 hb).1
    obtain ⟨_, _, blk, b1, b2, b3, b4⟩ := s.blk b hlt
    rw [hb] at b4
    obtain ⟨c1, c2, c3, c4⟩ := b4
    have hcs : csz W b = c.size := by unfold csz; rw [hb]
    refine ⟨hlt, by rw [hcs]; exact (Array.getElem?_eq_some_iff.1 hx).1, ⟨blk, b1, by omega⟩, ?_⟩
    unfold Ev.cell cellB
    rw [b1]
    show (if blk.min ≤ 0 then blk.cells.getN off else none) = _
    rw [if_pos (by omega)]
    exact c4 off x hx
  · cases hx
end Go.Ev

set_option linter.all false
namespace Go.Ev
open Go
/-- v is a slice of the call's own, that only it appends to: its cells are xs ('size' an element) -/
def Buf (h : H) (el size : Nat) (v : V) (xs : List V) : Prop :=
  (v = .l0 ∧ xs = []) ∨ ∃ id g n blk, v = .l id g 0 n xs.length none ∧ 1 ≤ n ∧ xs.length = n * size ∧ B.val h.floor ≤ B.val id ∧ B.val id < B.val h.next ∧ h.heap.get id = some blk ∧ (blk.min ≤ g ∧ g ≤ blk.cur) ∧ blk.size = xs.length ∧ blk.el = el ∧ blk.fr = 0 ∧
    ∀ i y, xs[i]? = some y → blk.cells.getN i = some y
/-- the block that a slice lies in -/
def isOf (v : V) : B → Prop := fun id => ∃ g off n fin cap, v = .l id g off n fin cap
theorem Buf.nil (h : H) (el size : Nat) : Buf h el size .l0 [] := .inl ⟨rfl, rfl⟩
theorem Buf.lst {h : H} {el : Nat} {v : V} {xs : List V} (b : Buf h el 1 v xs) : Lst h v xs := by
  rcases b with ⟨rfl, rfl⟩ | ⟨id, g, n, blk, rfl, h1, h2, h3, h4, h5, h6, h7, h8, h9, h10⟩
  · exact .inl ⟨rfl, rfl⟩
  · refine .inr ⟨id, g, 0, xs.length, none, by rw [h2, Nat.mul_one], by omega, h4, fun _ => ⟨blk, h5, h6.1⟩, fun i y hy => ?_⟩
    unfold Ev.cell cellB
    rw [h5]
    show (if blk.min ≤ g then blk.cells.getN (0 + i) else none) = _
    rw [if_pos h6.1, Nat.zero_add]
    exact h10 i y hy
theorem Buf.stay {p : B → Prop} {h h' : H} {el size : Nat} {v : V} {xs : List V} (b : Buf h el size v xs) (s : Stay p h h') (hp : ∀ id, isOf v id → ¬ p id) : Buf h' el size v xs := by
  rcases b with ⟨rfl, rfl⟩ | ⟨id, g, n, blk, rfl, h1, h2, h3, h4, h5, h6⟩
  · exact .inl ⟨rfl, rfl⟩
  · exact .inr ⟨id, g, n, blk, rfl, h1, h2, by rw [s.floor]; exact h3, Nat.lt_of_lt_of_le h4 s.next, (s.get id h4 (hp id ⟨_, _, _, _, _, rfl⟩)).trans h5, h6⟩
theorem Buf.grow {h h' : H} {el size : Nat} {v : V} {xs : List V} (b : Buf h el size v xs) (s : Stay nowhere h h') : Buf h' el size v xs := b.stay s fun _ _ h => h
/-- it was made here, behind h0 -/
theorem Buf.own {h : H} {el size : Nat} {v : V} {xs : List V} (b : Buf h el size v xs) {id : B} (i : isOf v id) : B.val h.floor ≤ B.val id ∧ B.val id < B.val h.next := by
  rcases b with ⟨rfl, rfl⟩ | ⟨id', g, n, blk, rfl, h1, h2, h3, h4, _⟩
  · obtain ⟨_, _, _, _, _, e⟩ := i; cases e
  · obtain ⟨_, _, _, _, _, e⟩ := i; cases e; exact ⟨h3, h4⟩
/-- a block of the call's own, with the cells xs (and perhaps more behind them) -/
def Own (h : H) (id : B) (xs : List V) : Prop := ∃ blk, h.heap.get id = some blk ∧ blk.cur = 0 ∧ blk.min = 0 ∧ blk.fr = 0 ∧ B.val h.floor ≤ B.val id ∧ B.val id < B.val h.next ∧ ∀ i y, xs[i]? = some y → blk.cells.getN i = some y
theorem Own.stay {p : B → Prop} {h h' : H} {id : B} {xs : List V} (o : Own h id xs) (s : Stay p h h') (hp : ¬ p id) : Own h' id xs := by
  obtain ⟨blk, h1, h2, h3, h4, h5, h6, h7⟩ := o
  exact ⟨blk, (s.get id h6 hp).trans h1, h2, h3, h4, by rw [s.floor]; exact h5, Nat.lt_of_lt_of_le h6 s.next, h7⟩
theorem Own.row {h : H} {id : B} {xs : List V} (o : Own h id xs) : Row h id 0 0 xs := by
  obtain ⟨blk, h1, h2, h3, h4, h5, h6, h7⟩ := o
  refine ⟨fun _ => ⟨blk, h1, by omega⟩, fun i y hy => ?_⟩
  unfold Ev.cell cellB
  rw [h1]
  show (if blk.min ≤ 0 then blk.cells.getN (0 + i) else none) = _
  rw [if_pos (by omega), Nat.zero_add]
  exact h7 i y hy
theorem Own.lst {h : H} {id : B} {xs : List V} (o : Own h id xs) (cap : Option Nat) : Lst h (.l id 0 0 xs.length xs.length cap) xs := by
  have r := o.row
  obtain ⟨blk, h1, h2, h3, h4, h5, h6, h7⟩ := o
  exact .inr ⟨id, 0, 0, _, cap, rfl, by omega, h6, r⟩
/-- at one place written -/
theorem store_own {h : H} {id : B} {xs : List V} {j fin : Nat} {y : V} (o : Own h id xs) (hj : j < fin) (hfit : j < 2 ^ 37) (h1 : oneV y = true) : ∃ h', (∀ k, store h id 0 j fin [y] k = k h') ∧ Own h' id (xs.set j y) ∧ Stay (fun i => i = id) h h' := by
  obtain ⟨blk, a1, a2, a3, a4, a5, a6, a7⟩ := o
  obtain ⟨next, floor, heap⟩ := h
  obtain ⟨cur, min, sz, cells, bel, fr⟩ := blk
  simp only at a2 a3 a4 a7
  subst a2; subst a3; subst a4
  obtain ⟨tr, t1, t2, t3⟩ := setList_fine [y] j cells (by simp; omega)
  obtain ⟨hp, s1, s2, s3⟩ := setK_ok id (⟨0, 0, sz, tr, bel, 0⟩ : Blk) heap
  have e1 : B.geB floor id = true := by cases floor <;> first | rfl | (show Nat.ble _ _ = true; rw [Nat.ble_eq]; exact a5)
  have e2 : Nat.ble (Nat.add j 1) fin = true := by rw [Nat.ble_eq]; exact hj
  have e3 : allOne [y] = true := by show Bool.rec false true (oneV y) = true; rw [h1]
  have e4 : frOk 0 j = true := rfl
  have e5 : Nat.beq 0 0 = true := rfl
  have e6 : Nat.ble 0 0 = true := rfl
  have a1' : heap.get id = some ⟨0, 0, sz, cells, bel, 0⟩ := a1
  refine ⟨⟨next, floor, hp⟩, fun k => ?_, ⟨_, s2, rfl, rfl, rfl, a5, a6, fun i z hz => ?_⟩, ⟨rfl, Nat.le_refl _, fun i _ hi => s3 i hi⟩⟩
  · simp only [store, hK_mk, a1', optK_some, blkK_mk, List.length_singleton, e5, e6, e1, e2, e3, e4, ifK_true]
    rw [t1, s1]
  · show tr.getN i = some z
    rw [List.getElem?_set] at hz
    split at hz
    · rename_i hij
      subst hij
      split at hz
      · cases hz
        exact t2 0 y rfl
      · cases hz
    · rename_i hij
      rw [t3 i (by simp; omega)]
      exact a7 i z hz
theorem alloc_own (el : Nat) (cs : List V) (h : H) (hl : cs.length < 2 ^ 37) (hf : B.val h.floor ≤ B.val h.next) : ∃ h', (∀ k, alloc el cs h k = k h.next h') ∧ Stay nowhere h h' ∧ Own h' h.next cs ∧ B.val h'.next = B.val h.next + 1 := by
  obtain ⟨h', a1, a2, a3, blk, b1, b2, b3, b4, b5, b6, b7⟩ := alloc_new el cs h (by omega)
  exact ⟨h', a1, a2, ⟨blk, b1, b3, b2, b6, by rw [a2.floor]; exact hf, by omega, b7⟩, a3⟩
theorem unFloor_same (h : H) : unFloor h (reFloor h) = h := by cases h; rfl
theorem Stay.unfloor {p : B → Prop} {h h1 : H} (s : Stay p (reFloor h) h1) : Stay p h (unFloor h h1) := by
  obtain ⟨n, f, hp⟩ := h
  obtain ⟨n1, f1, hp1⟩ := h1
  exact ⟨rfl, s.next, s.get⟩
theorem Own.unfloor {h h1 : H} {id : B} {xs : List V} (o : Own h1 id xs) (hf : B.val h.floor ≤ B.val id) : Own (unFloor h h1) id xs := by
  obtain ⟨n, f, hp⟩ := h
  obtain ⟨n1, f1, hp1⟩ := h1
  obtain ⟨blk, a1, a2, a3, a4, a5, a6, a7⟩ := o
  exact ⟨blk, a1, a2, a3, a4, hf, a6, a7⟩
theorem ev_convR (cf : CallF) (t : F) (h : H) (k : V → H → Bool) (kd : IntKind) (x : O) : doConv kd x cf t h k = vIR (oV x t) (fun _ n => k (.i kd (kd.wrap n)) h) fun _ m r hi => ifK (Nat.ble hi (mxOf kd)) fun _ => k (.r kd m r hi) h := by simp only [doConv, oE_eq, wrapF_eq]
theorem ev_rem (cf : CallF) (t : F) (h : H) (k : V → H → Bool) (x y : O) : doRem x y cf t h k = vI (oV y t) fun kd' b => vIR (oV x t) (fun kd a => ifK (kdEq kd kd') fun _ => fRem kd a b fun v => k v h) fun kd m r _ => remR kd' b (fun v => k v h) kd m r := by simp only [doRem, oE_eq, oK_eq]
section
variable {P : Program} {S : Spec} {l : List CO} {t : F} {h : H} {K : F → H → Prop}
theorem Drs.pure {n : Nat} {r : Run} {v : V} (e : ∀ k, r (cfS P S) t (reFloor h) k = k v (reFloor h)) (k : Drs P S l (put n v t) h K) : Drs P S (.mk .none (.some (slOf n)) false (.mk r) :: l) t h K :=
  Drs.op e (by rw [unFloor_same]; exact k)
theorem store_eq {o x : O} {id : B} {j fin : Nat} {y : V} {h' : H} (e1 : oV o t = .p id 0 j fin) (e2 : cells (oV x t) = [y]) (hs : ∀ k : H → Bool, store h id 0 j fin [y] k = k h') (cf : CallF) (k : V → H → Bool) : doStore 1 o x cf t h k = k (.tu []) h' := by
  simp only [doStore, oE_eq, oK_eq, e1, vP_p, e2]
  have : Nat.beq [y].length 1 = true := rfl
  rw [this, ifK_true, hs]
theorem Ops.store {b : Bool} {o x : O} {id : B} {j fin : Nat} {y : V} {xs : List V} (e1 : oV o t = .p id 0 j fin) (e2 : cells (oV x t) = [y]) (ho : Own h id xs) (hj : j < fin) (hfit : j < 2 ^ 37) (h1 : oneV y = true)
    (k : ∀ h', Own h' id (xs.set j y) → Stay (fun i => i = id) h h' → Ops P S l t h' K) : Ops P S (.mk .none .none b (.mk (doStore 1 o x)) :: l) t h K := by
  obtain ⟨h', a1, a2, a3⟩ := store_own ho hj hfit h1
  exact Ops.op0 (fun k => store_eq e1 e2 a1 _ k) (k h' a2 a3)
theorem Drs.bar0 {r : Run} {v : V} {h1 : H} (e : ∀ k, r (cfS P S) t h k = k v h1) (k : Drs P S l t h1 K) : Drs P S (.mk .none .none true (.mk r) :: l) t h K := by
  obtain ⟨t', h', a1, a2⟩ := k
  refine ⟨t', h', fun k => ?_, a2⟩
  show r (cfS P S) t h (fun v h => execDr (cfS P S) l t h k) = _
  rw [e, a1]
theorem Drs.store {o x : O} {id : B} {j fin : Nat} {y : V} {xs : List V} (e1 : oV o t = .p id 0 j fin) (e2 : cells (oV x t) = [y]) (ho : Own h id xs) (hj : j < fin) (hfit : j < 2 ^ 37) (h1 : oneV y = true)
    (k : ∀ h', Own h' id (xs.set j y) → Stay (fun i => i = id) h h' → Drs P S l t h' K) : Drs P S (.mk .none .none true (.mk (doStore 1 o x)) :: l) t h K := by
  obtain ⟨h', a1, a2, a3⟩ := store_own ho hj hfit h1
  exact Drs.bar0 (fun k => store_eq e1 e2 a1 _ k) (k h' a2 a3)
end
theorem Ok.mid {P : Program} {nt : Nat} {a b : CC} {t : F} {h : H} {K : X → F → H → Prop} (Q : F → H → Prop) (k1 : Ok P nt a t h (Then Q K)) (k2 : ∀ t h, Q t h → Ok P nt b t h K) : Ok P nt (.seq a b) t h K :=
  Ok.seq (k1.mono fun x t h hq => by
    cases x with
    | normal => exact k2 t h hq
    | exit id => exact hq
    | ret => exact hq)
theorem Stay.fl {h h' : H} {p : B → Prop} (s : Stay p h h') (hf : B.val h.floor ≤ B.val h.next) : B.val h'.floor ≤ B.val h'.next := by rw [s.floor]; exact Nat.le_trans hf s.next
section
variable {P : Program} {S : Spec} {l : List CO} {t : F} {h : H} {K : F → H → Prop}
end
end Go.Ev

set_option linter.all false
namespace Go.Ev
open Go
section
variable {P : Program} {S : Spec} {l : List CO} {t : F} {h : H} {K : F → H → Prop}
end
theorem Stay.past' {p : B → Prop} {a b c : H} (x : Stay nowhere a b) (y : Stay p b c) (h : ∀ id, p id → B.val a.next ≤ B.val id) : Stay nowhere a c :=
  ⟨y.floor.trans x.floor, Nat.le_trans x.next y.next, fun id h1 _ => (y.get id (Nat.lt_of_lt_of_le h1 x.next) fun hp => absurd (h id hp) (Nat.not_le.2 h1)).trans (x.get id h1 fun h => h)⟩
/-- a slice of ints -/
def Il (h : H) (v : V) (xs : List Int) : Prop := Lst h v (xs.map (V.i .i64))
theorem Il.grow {h h' : H} {v : V} {xs : List Int} (a : Il h v xs) (s : Stay nowhere h h') : Il h' v xs := Lst.grow a s
theorem Il.len {h0 : H} {v : V} {xs : List Int} (a : Il h0 v xs) (k : Nat → Bool) : lenV v k = k xs.length := by rw [Lst.len a]; simp
theorem Il.idx {h0 : H} {v : V} {xs : List Int} {i : Nat} (a : Il h0 v xs) (hi : i < xs.length) (k : V → Bool) : idxV 1 v i k = k (.p (lid v) (lg v) (loff v + i) (lfin v)) := Lst.idx a (by simpa using hi) k
theorem Il.rd {h : H} {v : V} {xs : List Int} {i : Nat} (a : Il h v xs) (hi : i < xs.length) (k : V → Bool) : load1 h (lid v) (lg v) (loff v + i) (lfin v) k = k (.i .i64 (xs.getD i 0)) :=
  load_lst a (by simp [hi]) k
/-- .. of the call's own, behind 'lo' -/
structure Ib (h : H) (lo el : Nat) (v : V) (xs : List Int) : Prop where
  buf : Buf h el 1 v (xs.map (V.i .i64))
  own : ∀ i, isOf v i → lo ≤ B.val i
theorem Ib.nil (h : H) (lo el : Nat) : Ib h lo el .l0 [] := ⟨Buf.nil h el 1, fun i hi => by obtain ⟨_, _, _, _, _, e⟩ := hi; cases e⟩
theorem Ib.grow {h h' : H} {lo el : Nat} {v : V} {xs : List Int} (a : Ib h lo el v xs) (s : Stay nowhere h h') : Ib h' lo el v xs := ⟨a.buf.grow s, a.own⟩
end Go.Ev

set_option linter.all false
namespace Go.Ev
open Go
section
variable {P : Program} {S : Spec} {l : List CO} {t : F} {h : H} {K : F → H → Prop}
end
/-- the front of an own block, as a slice -/
theorem Own.front {h : H} {id : B} {xs ys : List V} {fin : Nat} (o : Own h id (xs ++ ys)) (hf : xs.length ≤ fin) (cap : Option Nat) : Lst h (.l id 0 0 xs.length fin cap) xs := by
  have r := o.row
  obtain ⟨blk, h1, h2, h3, h4, h5, h6, h7⟩ := o
  refine .inr ⟨id, 0, 0, fin, cap, rfl, by omega, h6, fun _ => ⟨blk, h1, by omega⟩, fun i y hy => r.2 i y ?_⟩
  have : i < xs.length := by
    rcases Nat.lt_or_ge i xs.length with h | h
    · exact h
    · rw [List.getElem?_eq_none h] at hy; cases hy
  rw [List.getElem?_append_left this]
  exact hy
end Go.Ev

set_option linter.all false
namespace Go.Ev
open Go
/-- a text, as a value -/
def sv (l : List UInt8) : V := .s l.length (pk l)
theorem sv_nil : V.s 0 0 = sv [] := rfl
theorem vS_sv (l : List UInt8) (k : Nat → Nat → Bool) : vS (sv l) k = k l.length (pk l) := rfl
theorem natK_nn {z : Int} (h : 0 ≤ z) (k : Nat → Bool) : natK z k = k z.toNat := by
  obtain ⟨n, rfl⟩ := Int.eq_ofNat_of_zero_le h
  rfl
/-- a byte, as a value -/
def bv (c : UInt8) : V := .i .u8 (c.toNat : Int)
theorem bv_ofNat (n : Nat) : V.i .u8 ((n % 256 : Nat) : Int) = bv (UInt8.ofNat n) := by
  unfold bv; simp
theorem one_3 (u v w : V) : one [u, v, w] = .tu [u, v, w] := rfl
theorem res_3 (n m o : Nat) (t : F) (h : H) (k : List V → Bool) : resK [Rs.tmp (slOf n), Rs.tmp (slOf m), Rs.tmp (slOf o)] t h k = k [get n t, get m t, get o t] := by
  show forceV (sGet (slOf n) t) (fun v => forceV (sGet (slOf m) t) fun u => forceV (sGet (slOf o) t) fun w => k [v, u, w]) = _
  rw [forceV_eq, forceV_eq, forceV_eq]; rfl
section
variable (cf : CallF) (t : F) (h : H) (k : V → H → Bool) (o x y : O)
noncomputable def catV (a b : V) (k : V → Bool) : Bool := vS a fun la na => vS b fun lb nb => ifK (Nat.ble (Nat.add la lb) 1048576) fun _ => k (.s (Nat.add la lb) (Nat.add (Nat.mul na (Nat.pow 256 lb)) nb))
theorem ev_concat : doConcat x y cf t h k = catV (oV x t) (oV y t) fun v => k v h := by simp only [doConcat, oE_eq, fN_eq]; rfl
theorem catV_sv {a b : List UInt8} (hl : a.length + b.length ≤ 1048576) (k : V → Bool) : catV (sv a) (sv b) k = k (sv (a ++ b)) := by
  have h1 : Nat.ble (Nat.add a.length b.length) 1048576 = true := by rw [Nat.ble_eq]; exact hl
  unfold catV
  rw [vS_sv, vS_sv, h1, ifK_true]
  unfold sv
  rw [List.length_append, pk_append]; rfl
noncomputable def sixV (v : V) (i : Nat) (k : V → Bool) : Bool := vS v fun l n => ifK (Nat.ble (Nat.succ i) l) fun _ => k (.i .u8 (.ofNat (Nat.mod (Nat.div n (Nat.pow 256 (Nat.sub (Nat.sub l 1) i))) 256)))
theorem ev_sindex : doSIndex x y cf t h k = vI (oV y t) fun _ n => natK n fun n => sixV (oV x t) n fun v => k v h := by
  have no : ∀ u : V, (vI u fun _ n => natK n fun _ => false) = false := by
    intro u
    cases u <;> first | rfl | (rename_i kd n; cases n <;> rfl)
  simp only [doSIndex, oE_eq]
  generalize oV x t = v
  generalize oV y t = u
  have hn : ∀ w : V, (∀ k, vS w k = false) → (vI u fun _ n => natK n fun n => sixV w n fun p => k p h) = false := by
    intro w hw
    have : (fun (_ : IntKind) (n : Int) => natK n fun n => sixV w n fun p => k p h) = fun _ n => natK n fun _ => false := by
      funext _ n; congr 1; funext n; exact hw _
    rw [this]; exact no u
  cases v with
  | s l n => simp only [vS_s, fN_eq]; rfl
  | _ => rw [hn _ fun _ => rfl]; rfl
theorem sixV_sv {l : List UInt8} {i : Nat} (hi : i < l.length) (k : V → Bool) : sixV (sv l) i k = k (.i .u8 ((l.getD i 0).toNat : Int)) := by
  have h1 : Nat.ble (Nat.succ i) l.length = true := by rw [Nat.ble_eq]; exact hi
  unfold sixV
  rw [vS_sv, h1, ifK_true]
  have e : l.getD i 0 = l[i] := by simp [List.getD, hi]
  have := pk_get l hi
  rw [e, this]
  rfl
noncomputable def ssV (v : V) (a b : Nat) (k : V → Bool) : Bool := vS v fun l n => ifK (Nat.ble a b) fun _ => ifK (Nat.ble b l) fun _ => k (.s (Nat.sub b a) (Nat.mod (Nat.div n (Nat.pow 256 (Nat.sub l b))) (Nat.pow 256 (Nat.sub b a))))
noncomputable def ssaV (v : V) (a : Nat) (k : V → Bool) : Bool := vS v fun l n => ifK (Nat.ble a l) fun _ => k (.s (Nat.sub l a) (Nat.mod (Nat.div n (Nat.pow 256 (Nat.sub l l))) (Nat.pow 256 (Nat.sub l a))))
theorem no1 (u : V) : (vI u fun _ n => natK n fun _ => false) = false := by
  cases u <;> first | rfl | (rename_i kd n; cases n <;> rfl)
theorem ev_ss2 (a b : O) : doSSlice x (some a) (some b) cf t h k = vI (oV a t) fun _ p => natK p fun p => vI (oV b t) fun _ q => natK q fun q => ssV (oV x t) p q fun v => k v h := by
  simp only [doSSlice, oE_eq]
  have hb : ∀ (o : O) (d : Nat) (k : Nat → Bool), boundK (some o) d t k = vI (oV o t) fun _ n => natK n k := fun o d k => by show oE o t _ = _; rw [oE_eq]
  simp only [hb, fN_eq]
  generalize oV x t = v
  have hn : ∀ w : V, (∀ k, vS w k = false) → (vI (oV a t) fun _ p => natK p fun p => vI (oV b t) fun _ q => natK q fun q => ssV w p q fun v => k v h) = false := by
    intro w hw
    have e2 : ∀ p q, ssV w p q (fun v => k v h) = false := fun p q => hw _
    simp only [e2, no1]
  cases v with
  | s l n => simp only [vS_s]; rfl
  | _ => rw [hn _ fun _ => rfl]; rfl
theorem ev_ss1 (b : O) : doSSlice x none (some b) cf t h k = vI (oV b t) fun _ q => natK q fun q => ssV (oV x t) 0 q fun v => k v h := by
  simp only [doSSlice, oE_eq]
  have hb : ∀ (o : O) (d : Nat) (k : Nat → Bool), boundK (some o) d t k = vI (oV o t) fun _ n => natK n k := fun o d k => by show oE o t _ = _; rw [oE_eq]
  have h0 : ∀ (d : Nat) (k : Nat → Bool), boundK none d t k = k d := fun _ _ => rfl
  simp only [hb, h0, fN_eq]
  generalize oV x t = v
  have hn : ∀ w : V, (∀ k, vS w k = false) → (vI (oV b t) fun _ q => natK q fun q => ssV w 0 q fun v => k v h) = false := by
    intro w hw
    have e2 : ∀ p q, ssV w p q (fun v => k v h) = false := fun p q => hw _
    simp only [e2, no1]
  cases v with
  | s l n => simp only [vS_s]; rfl
  | _ => rw [hn _ fun _ => rfl]; rfl
theorem ev_ssa (a : O) : doSSlice x (some a) none cf t h k = vI (oV a t) fun _ p => natK p fun p => ssaV (oV x t) p fun v => k v h := by
  simp only [doSSlice, oE_eq]
  have hb : ∀ (o : O) (d : Nat) (k : Nat → Bool), boundK (some o) d t k = vI (oV o t) fun _ n => natK n k := fun o d k => by show oE o t _ = _; rw [oE_eq]
  have h0 : ∀ (d : Nat) (k : Nat → Bool), boundK none d t k = k d := fun _ _ => rfl
  simp only [hb, h0, fN_eq]
  generalize oV x t = v
  have hn : ∀ w : V, (∀ k, vS w k = false) → (vI (oV a t) fun _ q => natK q fun q => ssaV w q fun v => k v h) = false := by
    intro w hw
    have e2 : ∀ q, ssaV w q (fun v => k v h) = false := fun q => hw _
    simp only [e2, no1]
  cases v with
  | s l n =>
    simp only [vS_s]
    have : ∀ p, ssaV (.s l n) p (fun v => k v h) = ifK (Nat.ble p l) fun _ => k (.s (Nat.sub l p) (Nat.mod (Nat.div n (Nat.pow 256 (Nat.sub l l))) (Nat.pow 256 (Nat.sub l p)))) h := fun _ => rfl
    simp only [this]
    have e : ∀ p, (ifK (Nat.ble p l) fun _ => ifK (Nat.ble l l) fun _ => k (.s (Nat.sub l p) (Nat.mod (Nat.div n (Nat.pow 256 (Nat.sub l l))) (Nat.pow 256 (Nat.sub l p)))) h) = ifK (Nat.ble p l) fun _ => k (.s (Nat.sub l p) (Nat.mod (Nat.div n (Nat.pow 256 (Nat.sub l l))) (Nat.pow 256 (Nat.sub l p)))) h := fun p => by
      have : Nat.ble l l = true := by rw [Nat.ble_eq]; exact Nat.le_refl _
      rw [this]; rfl
    simp only [e]
  | _ => rw [hn _ fun _ => rfl]; rfl
theorem ssV_sv {l : List UInt8} {a b : Nat} (h1 : a ≤ b) (h2 : b ≤ l.length) (k : V → Bool) : ssV (sv l) a b k = k (sv ((l.take b).drop a)) := by
  have e1 : Nat.ble a b = true := by rw [Nat.ble_eq]; exact h1
  have e2 : Nat.ble b l.length = true := by rw [Nat.ble_eq]; exact h2
  unfold ssV
  rw [vS_sv, e1, ifK_true, e2, ifK_true]
  unfold sv
  rw [pk_part l h1 h2, List.length_drop, List.length_take, Nat.min_eq_left h2]; rfl
theorem ssaV_sv {l : List UInt8} {a : Nat} (h1 : a ≤ l.length) (k : V → Bool) : ssaV (sv l) a k = k (sv (l.drop a)) := by
  have := ssV_sv h1 (Nat.le_refl _) k
  rw [List.take_length] at this
  rw [← this]
  have e1 : Nat.ble a l.length = true := by rw [Nat.ble_eq]; exact h1
  have e2 : Nat.ble l.length l.length = true := by rw [Nat.ble_eq]; exact Nat.le_refl _
  unfold ssV ssaV
  rw [vS_sv, vS_sv, e1, ifK_true, ifK_true, e2, ifK_true]
noncomputable def scV (f : Nat → Nat → Nat → Nat → Bool) (a b : V) (k : V → Bool) : Bool := vS a fun la na => vS b fun lb nb => k (.b (f la na lb nb))
theorem ev_scmp (f : Nat → Nat → Nat → Nat → Bool) : doSCmp f x y cf t h k = scV f (oV x t) (oV y t) fun v => k v h := by simp only [doSCmp, oE_eq, fB_eq]; rfl
theorem eqS_sv (a b : List UInt8) : eqS a.length (pk a) b.length (pk b) = decide (a = b) := by
  have e : ∀ {x y : Bool}, (x = true ↔ y = true) → x = y := by intro x y h; cases x <;> cases y <;> simp_all
  apply e
  rw [decide_eq_true_iff]
  have := pk_eq a b
  unfold eqS
  rw [← this]
  exact beq_iff_eq
noncomputable def cmV (a b : V) (k : V → Bool) : Bool := vS a fun la na => vS b fun lb nb => k (.i .i64 (cmpI (eqS la na lb nb) (ltS la na lb nb)))
theorem ev_cmpS : doCmpS x y cf t h k = cmV (oV x t) (oV y t) fun v => k v h := by simp only [doCmpS, oE_eq, fC_eq]; rfl
theorem cmV_sv (a b : List UInt8) (k : V → Bool) : cmV (sv a) (sv b) k = k (.i .i64 (cmpI (decide (a = b)) (Op.bytesLess a b))) := by
  unfold cmV; rw [vS_sv, vS_sv, eqS_sv, bytesLess_pk]
theorem scV_eq (a b : List UInt8) (k : V → Bool) : scV eqS (sv a) (sv b) k = k (.b (decide (a = b))) := by
  unfold scV; rw [vS_sv, vS_sv, eqS_sv]
theorem scV_ne (a b : List UInt8) (k : V → Bool) : scV (fun a b c d => !eqS a b c d) (sv a) (sv b) k = k (.b (!decide (a = b))) := by
  unfold scV; rw [vS_sv, vS_sv]; simp only [eqS_sv]
theorem scV_lt (a b : List UInt8) (k : V → Bool) : scV ltS (sv a) (sv b) k = k (.b (Op.bytesLess a b)) := by
  unfold scV; rw [vS_sv, vS_sv, bytesLess_pk]
theorem ev_shift (f : IntKind → Int → Nat → (V → Bool) → Bool) : doShift f x y cf t h k = vI (oV x t) fun kd a => vI (oV y t) fun _ b => natK b fun n => f kd a (min n kd.bits) fun v => k v h := by simp only [doShift, oE_eq]
theorem f_shl (kd : IntKind) (a : Int) (n : Nat) (k : V → Bool) : shlF kd a n k = k (.i kd (kd.wrap (a * ((2 ^ n : Nat) : Int)))) := wrapF_eq _ _ _
theorem ev_idxArr (len size : Nat) : doIndexAddrArr len size o x cf t h k = vP (oV o t) fun id g off fin => vI (oV x t) fun _ n => natK n fun n => ifK (Nat.ble (Nat.succ n) len) fun _ => k (.p id g (off + n * size) fin) h := by
  simp only [doIndexAddrArr, oE_eq, fN_eq]; rfl
theorem arrIx {i n : Nat} (h : i < n) (k : Unit → Bool) : ifK (Nat.ble (Nat.succ i) n) k = k () := by
  have : Nat.ble (Nat.succ i) n = true := by rw [Nat.ble_eq]; exact h
  rw [this]; rfl
theorem ev_sliceArr (n size : Nat) (a : O) : doSliceArr n size x (some a) none cf t h k = vP (oV x t) fun id g off fin => vI (oV a t) fun _ p => natK p fun p => ifK (Nat.ble p n) fun _ => sliceC size id g off n fin n p n fun v => k v h := by
  simp only [doSliceArr, oE_eq]
  have hb : ∀ (o : O) (d : Nat) (k : Nat → Bool), boundK (some o) d t k = vI (oV o t) fun _ n => natK n k := fun o d k => by show oE o t _ = _; rw [oE_eq]
  have h0 : ∀ (d : Nat) (k : Nat → Bool), boundK none d t k = k d := fun _ _ => rfl
  simp only [hb, h0]
theorem sliceC_mid {size : Nat} {id : B} {g off len fin c a b : Nat} (hcM : c < 18446744073709551616) (h1 : b ≤ c) (h2 : a < c) (k : V → Bool) : sliceC size id g off len fin c a b k = k (.l id g (off + a * size) (b - a) fin (some (c - a))) := by
  have e1 : Nat.ble b c = true := by rw [Nat.ble_eq]; exact h1
  have e2 : Nat.beq a c = false := by
    cases hx : Nat.beq a c with
    | false => rfl
    | true => have := Nat.eq_of_beq_eq_true hx; omega
  have e0 : Nat.ble (Nat.succ c) 18446744073709551616 = true := by rw [Nat.ble_eq]; exact hcM
  unfold sliceC
  rw [e0, ifK_true, e1, ifK_true, e2]
  show fN (Nat.sub b a) _ = _
  rw [fN_eq, fN_eq, fN_eq]; rfl
theorem ifBle {a b : Nat} (h : a ≤ b) (k : Unit → Bool) : ifK (Nat.ble a b) k = k () := by
  have : Nat.ble a b = true := by rw [Nat.ble_eq]; exact h
  rw [this]; rfl
noncomputable def b2sV (h : H) (v : V) (k : V → Bool) : Bool := vL v (fun _ => k (.s 0 0)) fun id g off len fin _ => loadZ len len h id g off fin fun vs => packK vs 0 fun n => k (.s len n)
theorem ev_b2s : doB2S x cf t h k = b2sV h (oV x t) fun v => k v h := by simp only [doB2S, oE_eq]; rfl
theorem pack_bv : ∀ (l : List UInt8) (acc : Nat) (k : Nat → Bool), packK (l.map bv) acc k = k (acc * 256 ^ l.length + pk l)
  | [], acc, k => by show fN acc k = _; rw [fN_eq]; simp [pk]
  | c :: l, acc, k => by
    show byteK (bv c) (fun c => fN (Nat.add (Nat.mul acc 256) c) fun acc => packK (l.map bv) acc k) = _
    have hb : ∀ k', byteK (bv c) k' = k' c.toNat := fun k' => by
      have h2 : Nat.ble c.toNat 255 = true := by rw [Nat.ble_eq]; have := c.toNat_lt; omega
      unfold byteK bv
      rw [vI_i, kdEq_self, ifK_true]
      show natK (Int.ofNat c.toNat) _ = _
      rw [natK_ofNat, h2, ifK_true]
    rw [hb, fN_eq, pack_bv l]
    congr 1
    show (acc * 256 + c.toNat) * 256 ^ l.length + pk l = acc * 256 ^ (l.length + 1) + (c.toNat * 256 ^ l.length + pk l)
    rw [Nat.add_mul, Nat.pow_succ, Nat.mul_assoc, Nat.mul_comm 256, Nat.add_assoc]
theorem b2s_lst {h : H} {v : V} {l : List UInt8} (a : Lst h v (l.map bv)) (hne : l ≠ []) (k : V → Bool) : b2sV h v k = k (sv l) := by
  rcases a with ⟨rfl, e⟩ | ⟨id, g, off, fin, cap, rfl, h2, h3, h4⟩
  · simp at e; exact absurd e hne
  · show loadZ (l.map bv).length (l.map bv).length h id g off fin (fun vs => packK vs 0 fun n => k (.s (l.map bv).length n)) = _
    rw [loadZ_pos (by rw [List.length_map]; exact List.length_pos_iff.2 hne), loadN_row h4 rfl (by simpa using hne) h2, pack_bv]
    unfold sv
    simp
end
section
variable {P : Program} {S : Spec} {l : List CO} {t : F} {h : H} {K : F → H → Prop}
end
/-- the end of an own block, as a slice -/
theorem Own.back {h : H} {id : B} {xs : List V} {a fin : Nat} (o : Own h id xs) (ha : a ≤ xs.length) (hf : xs.length ≤ fin) (cap : Option Nat) : Lst h (.l id 0 a (xs.length - a) fin cap) (xs.drop a) := by
  have r := o.row
  obtain ⟨blk, h1, h2, h3, h4, h5, h6, h7⟩ := o
  refine .inr ⟨id, 0, a, fin, cap, by rw [List.length_drop], by rw [List.length_drop]; omega, h6, fun _ => ⟨blk, h1, by omega⟩, fun i y hy => ?_⟩
  rw [List.getElem?_drop] at hy
  have := r.2 (a + i) y hy
  rwa [Nat.zero_add] at this
end Go.Ev

set_option linter.all false
namespace Go.Ev
open Go Go.RowKit Go.WideShapes Go.ChangeShapes Go.ChangeAt
section
variable {H : Type} {enc : TypeId × Value → H}
theorem trodAll_below {P : Program} (hl : laidOutB P = true) {W W' : World} (hb : Below W.heap.size W W') (sp : Nat → Bool) : ∀ (ts : List TypeId) (vs : List Value) (ds : List (DataW H)) (ps : List MemPlace),
    ts.all (fun t => P.readableRec t && decide (t < P.types.size)) = true → DataW.TrodAll enc P W 0 (fun _ => true) true ts vs ds ps → (∀ x ∈ ps, x.block < W.heap.size) → (∀ x ∈ ps, sp x.block = true) → DataW.TrodAll enc P W' 0 sp true ts vs ds ps
  | [], [], [], ps, _, h, _, _ => h
  | t :: ts, v :: vs, d :: ds, ps, ht, h, hlt, hsp => by
    obtain ⟨p, q, h1, h2, rfl⟩ := h
    simp only [List.all_cons, Bool.and_eq_true] at ht
    refine ⟨p, q, ?_, trodAll_below hl hb sp ts vs ds q (by simpa using ht.2) h2 (fun x hx => hlt x (by simp [hx])) (fun x hx => hsp x (by simp [hx])), rfl⟩
    exact WideElems.Trod_stays hl ht.1.1 (of_decide_eq_true ht.1.2) h1 (fun x hx => hb.same (hlt x (by simp [hx]))) (fun x hx => hsp x (by simp [hx]))
  | [], [], _ :: _, _, _, h, _, _ => h.elim
  | [], _ :: _, _, _, _, h, _, _ => by cases h
  | _ :: _, [], _, _, _, h, _, _ => by cases h
  | _ :: _, _ :: _, [], _, _, h, _, _ => by cases h
theorem law_lifted {C : Checked} {os : Os} {f : FuncId} {fn : Func} {s : ChangeSpec} {conds : List PathCond} {tb : TypeId}
    (own : ownKnob C.prog.godebug = none) (started : os.Started) (noInit : C.prog.inits.idxOf? f = none) (hfn : C.prog.funcs[f]? = some fn)
    (witness : ∃ (w : World) (tape : Tape) (i : Input), w.os = os ∧ (w.forCall tape i).Shaped C.prog ∧ i.vars = [] ∧ Input.okWide C.prog (w.forCall tape i) .any w.heap.size f i ∧
      s.pre6 enc C.prog fn conds false (w.forCall tape i).memory i.args ∧ ({} : Assume).holds C.prog (lone (Frame.enter C.prog f i.args .normal) [] (w.forCall tape i)))
    (hv : s.vars = []) (hs : ∀ ds : List (DataW H), ds.length = fn.params.toList.length → s.fn H ds = { results := [.lit (.bool true)], args := ds })
    (hl : laidOutB C.prog = true) (hr : fn.params.toList.all (fun t => C.prog.readableRec t && decide (t < C.prog.types.size)) = true)
    (hres : fn.resultTypes = #[tb]) (hb : C.prog.underlying tb = some .bool)
    (run : ∀ (W : World) (base : Nat) (args : Array Value) (ds : List (DataW H)) (p : List MemPlace), (∀ (j : Nat) t v, fn.params[j]? = some t → args[j]? = some v → Value.okWide C.prog W .any base t v) → W.ShapedOpen C.prog → DataW.TrodAll enc C.prog W 0 (fun _ => true) true fn.params.toList args.toList ds p →
      Calls C.prog f args W fun e w' => e = .returned (.bool true) ∧ Below W.heap.size W w') :
    ReturnsInHanded {} C os f .any (s.pre6 enc C.prog fn conds false) (s.post enc C.prog fn false true false false) := by
  refine returnsInHanded_of_change_shaped own started noInit hfn witness ?_
  intro W base args ds gs before hval0 hW hcnd _ hopen _
  have hval : ∀ (j : Nat) t v, fn.params[j]? = some t → args[j]? = some v → Value.okWide C.prog W .any base t v := hval0
  have hW' := hW
  obtain ⟨p, q, hA, hV, rfl, hfz, hnd⟩ := hW
  rw [hv] at hV
  obtain ⟨rfl, rfl⟩ := trodVars_none hV
  have hlen : ∀ (ts : List TypeId) (vs : List Value) (ds : List (DataW H)) (ps : List MemPlace), DataW.TrodAll enc C.prog W 0 (fun _ => true) true ts vs ds ps → ds.length = ts.length := by
    intro ts
    induction ts with
    | nil => intro vs ds ps h; cases vs <;> cases ds <;> first | rfl | cases h
    | cons t ts ih =>
      intro vs ds ps h
      cases vs with
      | nil => cases h
      | cons v vs =>
        cases ds with
        | nil => cases h
        | cons d ds => obtain ⟨p, q, h1, h2, rfl⟩ := h; simp [ih vs ds q h2]
  have hd := hlen _ _ _ _ hA
  have hspec : s.fn H (ds ++ []) = { results := [.lit (.bool true)], args := ds } := by rw [List.append_nil]; exact hs ds hd
  refine (run W base args ds p hval hopen hA).mono fun e W' ⟨he, hg⟩ => ?_
  subst he
  simp only [List.append_nil] at hW'
  have hlt : ∀ x ∈ p, x.block < W.heap.size := fun x hx => by simpa using hW'.lt x (by simpa using hx)
  refine ⟨_, rfl, post_kept (pa := p) (pv := []) hg (by simpa using hW') (fun b sp hd => ?_) (fun sp hsp => ?_) (fun sp hsp => ?_) rfl (ok_one hres rfl (okWide_bool_mk hb _))⟩
  · rw [hspec, hres]
    exact trodAll_cons_mk (shut_bool hb _) trodAll_mk0
  · rw [hspec]
    exact trodAll_below hl hg sp _ _ _ _ hr hA hlt (fun x hx => hsp x (by simpa using hx))
  · rw [hspec, hv]; rfl
end
/-- what a call's contract at the state that it begins in says of the call -/
theorem calls_true {P : Program} {f : FuncId} {W : World} {h : H} (s : Start W h) {vs : List V} {args : Array Value} (ha : LRel (emb0 W) vs args.toList) (k : FnOk P f vs h fun y _ => y = .b true) : Calls P f args W fun e w' => e = .returned (.bool true) ∧ Below W.heap.size W w' := by
  obtain ⟨y, h', ⟨_, _, r⟩, rfl⟩ := k
  have := (r (emb0 W) W W args.toList ha s.rel).2
  rw [show args.toList.toArray = args by simp] at this
  refine this.mono fun e w' he => ?_
  obtain ⟨x, rfl, ρ', _, x2, x3⟩ := he
  have x2' : x = .bool true := x2
  rw [x2']
  exact ⟨rfl, x3.same.below⟩
end Go.Ev

set_option linter.all false
namespace Go.Ev
open Go Go.RowKit Go.WideShapes Go.ChangeShapes Go.ChangeAt Go.Deep
theorem cell_add {W : World} {a : Addr} {i : Nat} {x : Value} (h : W.cell? (a.add i) = some x) : W.cell? ⟨a.block, a.off + i, none⟩ = some x := by
  have hsp := World.cell?_spot h
  have e : a.add i = ⟨a.block, a.off + i, none⟩ := by
    unfold Addr.add at hsp ⊢
    split
    · rename_i hi
      rw [if_pos hi] at hsp
      subst hi
      obtain ⟨b, o, sp⟩ := a
      have : sp = none := hsp
      rw [this]; rfl
    · rfl
  rw [← e]; exact h
section
variable {H' : Type} {enc : TypeId × Value → H'} {P : Program}
/-- a slice of one-cell elements: its elements' values -/
theorem maxLen_lt : maxLen < 18446744073709551616 := by decide
end
end Go.Ev

set_option linter.all false
namespace Go.Ev
open Go Go.RowKit Go.WideShapes Go.ChangeShapes Go.ChangeAt Go.Deep
theorem absV_str (W : World) (s : ByteArray) : absV W (.string s) = sv s.data.toList := by
  unfold absV sv
  simp
theorem u16_nat {a : Int} (h : (Lit.int .u16 a).wf = true) : ∃ n : Nat, n ≤ 65535 ∧ a = (n : Int) := by
  have h' := h
  simp only [Lit.wf, IntKind.has, IntKind.min, IntKind.max, IntKind.signed, IntKind.bits] at h'
  simp at h'
  exact ⟨a.toNat, by omega, by omega⟩
theorem u8_byte {a : Int} (h : (Lit.int .u8 a).wf = true) : ∃ c : UInt8, a = (c.toNat : Int) := by
  have h' := h
  simp only [Lit.wf, IntKind.has, IntKind.min, IntKind.max, IntKind.signed, IntKind.bits] at h'
  simp at h'
  refine ⟨UInt8.ofNat a.toNat, ?_⟩
  rw [UInt8.toNat_ofNat', Nat.mod_eq_of_lt (by omega)]; omega
theorem maxLen_le {n : Nat} (h : n ≤ maxLen) : n ≤ 9223372036854775807 := by unfold maxLen at h; omega
section
variable {H' : Type} {enc : TypeId × Value → H'} {P : Program}
end
end Go.Ev

set_option linter.all false
namespace Go.Ev
open Go
/-- what one operation makes of a state -/
def RunRel (P : Program) (r : CR) (t : F) (h : H) (v : V) (h' : H) : Prop := ∃ cf, CfOk P cf ∧ ∀ k, runK r cf t h k = k v h'
def OpRel (P : Program) (o : CO) (t : F) (h : H) (t1 : F) (h1 : H) : Prop := match o with
  | .mk g d _ r => ∃ b, (∀ k, guardK g t k = k b) ∧ ((b = true ∧ ∃ v, RunRel P r t h v h1 ∧ ∀ k, putD d v t k = k t1) ∨ (b = false ∧ h1 = h ∧ ∀ k, putD d (.tu []) t k = k t1))
def OpsRel (P : Program) : List CO → F → H → F → H → Prop
  | [], t, h, t', h' => t' = t ∧ h' = h
  | o :: l, t, h, t', h' => ∃ t1 h1, OpRel P o t h t1 h1 ∧ OpsRel P l t1 h1 t' h'
def DrRel (P : Program) (o : CO) (t : F) (h : H) (t1 : F) (h1 : H) : Prop := match o with
  | .mk g d true r => OpRel P (.mk g d true r) t h t1 h1
  | .mk g d false r => ∃ b, (∀ k, guardK g t k = k b) ∧ ((b = true ∧ ∃ v h2, RunRel P r t (reFloor h) v h2 ∧ h1 = unFloor h h2 ∧ ∀ k, putD d v t k = k t1) ∨ (b = false ∧ h1 = h ∧ ∀ k, putD d (.tu []) t k = k t1))
def DrsRel (P : Program) : List CO → F → H → F → H → Prop
  | [], t, h, t', h' => t' = t ∧ h' = h
  | o :: l, t, h, t', h' => ∃ t1 h1, DrRel P o t h t1 h1 ∧ DrsRel P l t1 h1 t' h'
theorem cfSome (P : Program) : CfOk P (cfS P fun _ _ _ _ _ => True) := cfS_ok P _
theorem opRel_run {P : Program} {o : CO} {t : F} {h : H} {t1 : F} {h1 : H} (a : OpRel P o t h t1 h1) : ∃ cf, CfOk P cf ∧ ∀ (ih : F → H → (F → H → Bool) → Bool) k, opK o cf ih t h k = ih t1 h1 k := by
  obtain ⟨g, d, bar, r⟩ := o
  obtain ⟨b, g1, g2⟩ := a
  rcases g2 with ⟨rfl, v, ⟨cf, c1, c2⟩, p⟩ | ⟨rfl, rfl, p⟩
  · refine ⟨cf, c1, fun ih k => ?_⟩
    show guardK g t (fun b => opGo b r d cf ih t h k) = _
    rw [g1]
    show runK r cf t h (fun v h => putD d v t fun t => ih t h k) = _
    rw [c2, p]
  · refine ⟨_, cfSome P, fun ih k => ?_⟩
    show guardK g t (fun b => opGo b r d _ ih t h1 k) = _
    rw [g1]
    show putD d (.tu []) t (fun t => ih t h1 k) = _
    rw [p]
theorem drRel_run {P : Program} {o : CO} {t : F} {h : H} {t1 : F} {h1 : H} (a : DrRel P o t h t1 h1) : ∃ cf, CfOk P cf ∧ ∀ (ih : F → H → (F → H → Bool) → Bool) k, drK o cf ih t h k = ih t1 h1 k := by
  obtain ⟨g, d, bar, r⟩ := o
  cases bar with
  | true =>
    obtain ⟨b, g1, g2⟩ := a
    rcases g2 with ⟨rfl, v, ⟨cf, c1, c2⟩, p⟩ | ⟨rfl, rfl, p⟩
    · refine ⟨cf, c1, fun ih k => ?_⟩
      show guardK g t (fun b => drGo b true r d cf ih t h k) = _
      rw [g1]
      show runK r cf t h (fun v h => putD d v t fun t => ih t h k) = _
      rw [c2, p]
    · refine ⟨_, cfSome P, fun ih k => ?_⟩
      show guardK g t (fun b => drGo b true r d _ ih t h1 k) = _
      rw [g1]
      show putD d (.tu []) t (fun t => ih t h1 k) = _
      rw [p]
  | false =>
    obtain ⟨b, g1, g2⟩ := a
    rcases g2 with ⟨rfl, v, h2, ⟨cf, c1, c2⟩, rfl, p⟩ | ⟨rfl, rfl, p⟩
    · refine ⟨cf, c1, fun ih k => ?_⟩
      show guardK g t (fun b => drGo b false r d cf ih t h k) = _
      rw [g1]
      show runK r cf t (reFloor h) (fun v h2 => putD d v t fun t => ih t (unFloor h h2) k) = _
      rw [c2, p]
    · refine ⟨_, cfSome P, fun ih k => ?_⟩
      show guardK g t (fun b => drGo b false r d _ ih t h1 k) = _
      rw [g1]
      show putD d (.tu []) t (fun t => ih t h1 k) = _
      rw [p]
theorem same_of {t1 t2 : F} {h1 h2 : H} (e : ∀ k : F → H → Bool, k t1 h1 = k t2 h2) : t2 = t1 ∧ h2 = h1 := by
  have := e fun t h => @decide (t = t1 ∧ h = h1) (Classical.propDecidable _)
  simp at this
  exact this
theorem opsRel_ok {P : Program} {nt : Nat} {ops : Array Oper} (bars : Nat → Bool) : ∀ (l : List Oper) (n : Nat), ops.toList.drop n = l → ∀ (t : F) (h : H) (t' : F) (h' : H),
    OpsRel P (compOpsWith bars P nt ops.toList (compOp P) n l) t h t' h' → KeepF h h' ∧ B.val h.next ≤ B.val h'.next ∧
      ∀ ρ a w w0 (Q : Exit → Act → World → Prop), ARel ρ nt t a → HRel ρ h w w0 → (∀ ρ' a' w', Ext h.floor ρ ρ' → ARel ρ' nt t' a' → HRel ρ' h' w' w0 → Q .normal a' w') →
        wpOps P ops Q (List.range' n l.length) a w := by
  intro l
  induction l with
  | nil =>
    intro n hl t h t' h' hk
    obtain ⟨rfl, rfl⟩ := hk
    exact ⟨KeepF.refl _, Nat.le_refl _, fun ρ a w w0 Q A R hq => hq ρ a w (Ext.refl _ ρ) A R⟩
  | cons o l ih =>
    intro n hl t h t' h' hk
    obtain ⟨t1, h1, hk1, hk2⟩ := hk
    obtain ⟨cf, hcf, e⟩ := opRel_run hk1
    obtain ⟨t1', h1', a1, a2, a3, a4⟩ := op_ok hcf (ops := ops) (ih := fun t h k => k t h) (k := fun _ _ => true) (e _ _)
    obtain ⟨rfl, rfl⟩ := same_of (fun k => (e (fun t h k => k t h) k).symm.trans (a1 k))
    have hl' : ops.toList.drop (n + 1) = l := by rw [← List.drop_drop, hl]; rfl
    obtain ⟨b2, b3, b4⟩ := ih (n + 1) hl' _ _ _ _ hk2
    refine ⟨KeepF.trans a2 a3 b2, Nat.le_trans a3 b3, fun ρ a w w0 Q A R hq => ?_⟩
    have hn : ops[n]? = some o := by
      have : ops.toList[n]? = some o := by
        have := congrArg (fun l => l[0]?) hl
        simpa using this
      simpa using this
    rw [List.length_cons, List.range'_succ, wpOps_cons]
    unfold wpOp
    simp only [hn]
    have := a4 ρ a w w0 (wpOps P ops Q (List.range' (n + 1) l.length)) Q A R fun ρ' a' w' l1 A' R' => b4 ρ' a' w' w0 Q A' R' fun ρ'' a'' w'' l2 A'' R'' => hq ρ'' a'' w'' (Ext.trans l1 (by rw [← a2.1]; exact l2)) A'' R''
    split
    · rename_i hw; simp only [hw, if_true] at this; exact .inl this
    · rename_i hw; simp only [hw] at this; exact this
theorem drs_trace {P : Program} {nt : Nat} {ops : Array Oper} (bars : Nat → Bool) : ∀ (l : List Oper) (n : Nat), ops.toList.drop n = l → ∀ (t : F) (h : H) (t' : F) (h' : H),
    DrsRel P (compOpsWith bars P nt ops.toList (compOp P) n l) t h t' h' →
    ∃ (Ts : Nat → F) (Hs : Nat → H), Ts n = t ∧ Hs n = h ∧ (Ts (n + l.length) = t' ∧ Hs (n + l.length) = h') ∧
      ∀ (i : Nat) o, n ≤ i → ops[i]? = some o → StepOk P nt ops i o (bars i) (Ts i) (Ts (i + 1)) (Hs i) (Hs (i + 1)) := by
  intro l
  induction l with
  | nil =>
    intro n hl t h t' h' hk
    obtain ⟨rfl, rfl⟩ := hk
    refine ⟨fun _ => t', fun _ => h', rfl, rfl, ⟨rfl, rfl⟩, fun i o hni hi => ?_⟩
    have : ops.toList[i]? = none := by
      rw [List.getElem?_eq_none]
      have := congrArg List.length hl
      simp at this
      simp; omega
    rw [show ops[i]? = ops.toList[i]? by simp, this] at hi
    cases hi
  | cons o l ih =>
    intro n hl t h t' h' hk
    have hn : ops[n]? = some o := by
      have : ops.toList[n]? = some o := by
        have := congrArg (fun l => l[0]?) hl
        simpa using this
      simpa using this
    obtain ⟨t1, h1, hk1, hk2⟩ := hk
    obtain ⟨cf, hcf, e⟩ := drRel_run hk1
    obtain ⟨t1', h1', a1, a2⟩ := dr_step hcf hn (ih := fun t h k => k t h) (k := fun _ _ => true) (e _ _)
    obtain ⟨rfl, rfl⟩ := same_of (fun k => (e (fun t h k => k t h) k).symm.trans (a1 k))
    have hl' : ops.toList.drop (n + 1) = l := by rw [← List.drop_drop, hl]; rfl
    obtain ⟨Ts, Hs, b1, b2, b3, b4⟩ := ih (n + 1) hl' _ _ _ _ hk2
    refine ⟨fun i => if i = n then t else Ts i, fun i => if i = n then h else Hs i, by simp, by simp, ?_, fun i oi hni hi => ?_⟩
    · have e1 : n + (o :: l).length = n + 1 + l.length := by simp; omega
      rw [e1]
      simp only [show ¬ n + 1 + l.length = n by omega, if_false]
      exact b3
    · by_cases hin : i = n
      · subst hin
        rw [hn] at hi
        cases hi
        simp only [if_true, show ¬ i + 1 = i by omega, if_false, b1, b2]
        exact a2
      · simp only [hin, if_false, show ¬ i + 1 = n by omega]
        exact b4 i oi (by omega) hi
theorem drsRel_ok {P : Program} (hm : P.follows .mixedOrders = true) {nt : Nat} {ops : Array Oper} (hd : drawsOk ops.toList = true) {t : F} {h : H} {t' : F} {h' : H}
    (hk : DrsRel P (compOpsWith (barAt P ops.toList (befs ops.toList [])) P nt ops.toList (compOp P) 0 ops.toList) t h t' h') :
    KeepF h h' ∧ B.val h.next ≤ B.val h'.next ∧
      ∀ ρ a w w0 (id : Nat) (Q : Exit → Act → World → Prop), ARel ρ nt t a → HRel ρ h w w0 → (∀ ρ' a' w', Ext h.floor ρ ρ' → ARel ρ' nt t' a' → HRel ρ' h' w' w0 → Q .normal a' w') → (Code.region id ops true).wp P Q a w := by
  obtain ⟨Ts, Hs, b1, b2, b3, b4⟩ := drs_trace _ ops.toList 0 (by simp) t h t' h' hk
  have hst : ∀ (i : Nat) o, ops[i]? = some o → StepOk P nt ops i o (barAt P ops.toList (befs ops.toList []) i) (Ts i) (Ts (i + 1)) (Hs i) (Hs (i + 1)) := fun i o hi => b4 i o (Nat.zero_le _) hi
  have hlen : 0 + ops.toList.length = ops.size := by simp
  rw [hlen] at b3
  obtain ⟨c1, c2⟩ := b3
  refine ⟨by rw [← b2, ← c2]; exact keep_all hd hst (Nat.le_refl _), by rw [← b2, ← c2]; exact nx_mono hst (Nat.zero_le _) (Nat.le_refl _), fun ρ a w w0 id Q A R hQ => ?_⟩
  refine wp_region_any hm ?_
  have hR1 : HRel ρ h { w with drawn := w.drawn + 1 } w0 := R.dr _
  obtain ⟨M, m1, m2, m3, m4⟩ := next_bar (P := P) (nt := nt) (Ts := Ts) (Hs := Hs) hd hst 0 ops.size (by omega)
  have hno : ∀ j, ¬ InL (Array.replicate ops.size false) j := by
    intro j; unfold InL
    by_cases hj : j < ops.size <;> simp [hj]
  refine any_ok hd hst (ρ0 := ρ) (w0 := w0) (fun ρ' a' w' h1 h2 h3 => hQ ρ' a' w' (by rw [← b2]; exact h1) (by rw [← c1]; exact h2) (by rw [← c2]; exact h3)) ops.size _ a _ ρ 0 M (by simp) (by unfold left; exact Nat.le_trans (List.length_filter_le _ _) (by simp)) (fun j o hj hin => absurd hin (hno j)) ?_
  refine ⟨A.size, A.defers, Ext.refl _ _, fun q h5 => ⟨0, Nat.zero_le _, .inl rfl, fun j o hj hdj => ⟨fun h => by omega, fun h => absurd h (hno j)⟩, ?_⟩, Nat.zero_le _, m2, fun j o hj h1 h2 => by omega, fun j o hj h1 h2 => hno j, m3, m4,
    fun i g L hL => ?_, fun i g L hL j o hj hnj hbd => ?_, fun m h1 h2 => ?_⟩
  · rw [b1, b2]
    exact VRel.up (fun i g L hL => Emb.below_of hL (R.ids _ _ _ hL)) _ _ (A.slot q h5)
  · have := R.ids _ _ _ hL
    rw [← b2] at this
    exact Nat.lt_of_lt_of_le this (nx_mono hst (Nat.zero_le _) m2)
  · have := R.ids _ _ _ hL
    rw [← b2] at this
    have hjN : j < ops.size := (Array.getElem?_eq_some_iff.1 hj).1
    have := nx_mono hst (m := 0) (n := j) (Nat.zero_le _) (by omega)
    omega
  · have hmN : m ≤ ops.size := by omega
    rw [← b2] at hR1
    have hR2 : HRel ρ (Hs m) { w with drawn := w.drawn + 1 } w0 := hR1.later (fun i g L hL => seg_keep hst m2 m3 (Nat.le_refl _) h1 h2 (hR1.ids _ _ _ hL)) (nx_mono hst h1 hmN) (fl_same hst hmN)
    exact hR2.congr fun i g => by
      cases hL : ρ i g with
      | none => unfold Emb.below; rw [hL]; split <;> rfl
      | some L => exact Emb.below_of hL (hR2.ids _ _ _ hL)
def WO (P : Program) (l : List CO) (t : F) (h : H) (K : F → H → Prop) : Prop := ∃ t' h', OpsRel P l t h t' h' ∧ K t' h'
def DO (P : Program) (l : List CO) (t : F) (h : H) (K : F → H → Prop) : Prop := ∃ t' h', DrsRel P l t h t' h' ∧ K t' h'
section
variable {P : Program} {nt : Nat} {t : F} {h : H} {K : X → F → H → Prop}
theorem Ok.rg {l : List CO} (a : WO P l t h (K .normal)) : Ok P nt (.region l) t h K := by
  obtain ⟨t', h', e, k⟩ := a
  refine ⟨.normal, t', h', by_scopes _ fun c e' hs => ?_, k⟩
  cases c with
  | region id os draw =>
    have e1 : compRegion P nt os.toList draw = .region l := e'
    unfold compRegion at e1
    split at e1
    · cases e1
      obtain ⟨a2, a3, a4⟩ := opsRel_ok (fun _ => true) os.toList 0 (by simp) t h t' h' e
      refine ⟨a2, a3, fun ρ a w w0 Q A R hQ => wp_region ?_⟩
      have := a4 ρ a w w0 Q A R hQ
      rwa [show List.range' 0 os.toList.length = List.range os.size by rw [List.range_eq_range']; simp] at this
    · split at e1 <;> cases e1
  | scope d => exact absurd rfl (hs d)
  | _ => cases e'
theorem Ok.dw (hm : P.follows .mixedOrders = true) {l : List CO} (a : DO P l t h (K .normal)) : Ok P nt (.draws l) t h K := by
  obtain ⟨t', h', e, k⟩ := a
  refine ⟨.normal, t', h', by_scopes _ fun c e' hs => ?_, k⟩
  cases c with
  | region id os draw =>
    have e1 : compRegion P nt os.toList draw = .draws l := e'
    unfold compRegion at e1
    split at e1
    · cases e1
    · split at e1
      · rename_i hd
        cases e1
        obtain ⟨a2, a3, a4⟩ := drsRel_ok hm hd e
        exact ⟨a2, a3, fun ρ a w w0 Q A R hQ => a4 ρ a w w0 id Q A R hQ⟩
      · cases e1
  | scope d => exact absurd rfl (hs d)
  | _ => cases e'
end
end Go.Ev

set_option linter.all false
namespace Go.Ev
open Go
/-- operations, shortly -/
noncomputable def wB (n : Nat) (r : Run) : CO := .mk .none (.some (slOf n)) true (.mk r)
noncomputable def uB (n : Nat) (r : Run) : CO := .mk .none (.some (slOf n)) false (.mk r)
noncomputable def wG (g : Nat) (w : Bool) (n : Nat) (r : Run) : CO := .mk (.some (slOf g) w) (.some (slOf n)) true (.mk r)
noncomputable def uG (g : Nat) (w : Bool) (n : Nat) (r : Run) : CO := .mk (.some (slOf g) w) (.some (slOf n)) false (.mk r)
noncomputable def oN (n : Nat) : O := .c (.i .i64 (.ofNat n))
theorem wB_eq (n : Nat) (r : Run) : wB n r = .mk .none (.some (slOf n)) true (.mk r) := rfl
theorem uB_eq (n : Nat) (r : Run) : uB n r = .mk .none (.some (slOf n)) false (.mk r) := rfl
theorem wG_eq (g : Nat) (w : Bool) (n : Nat) (r : Run) : wG g w n r = .mk (.some (slOf g) w) (.some (slOf n)) true (.mk r) := rfl
theorem uG_eq (g : Nat) (w : Bool) (n : Nat) (r : Run) : uG g w n r = .mk (.some (slOf g) w) (.some (slOf n)) false (.mk r) := rfl
theorem oN_eq (n : Nat) : oN n = .c (.i .i64 (.ofNat n)) := rfl
/-- what stands behind an operation -/
inductive Nx where
  | w (n : Nat) (l : List CO) (t : F) (K : F → H → Prop)
  | w0 (l : List CO) (t : F) (K : F → H → Prop)
  | d (n : Nat) (l : List CO) (t : F) (K : F → H → Prop)
  | d0 (l : List CO) (t : F) (K : F → H → Prop)
  | u (n : Nat) (l : List CO) (t : F) (h : H) (K : F → H → Prop)
  | u0 (l : List CO) (t : F) (h : H) (K : F → H → Prop)
def Nx.go (P : Program) : Nx → V → H → Prop
  | .w n l t K, v, h => WO P l (put n v t) h K
  | .w0 l t K, _, h => WO P l t h K
  | .d n l t K, v, h => DO P l (put n v t) h K
  | .d0 l t K, _, h => DO P l t h K
  | .u n l t h0 K, v, h => DO P l (put n v t) (unFloor h0 h) K
  | .u0 l t h0 K, _, h => DO P l t (unFloor h0 h) K
/-- the operation r, then N -/
def OR (P : Program) (r : Run) (t : F) (h : H) (N : Nx) : Prop := ∃ v h', RunRel P (.mk r) t h v h' ∧ N.go P v h'
/-- a guard, then r and N, or N alone -/
def GD (P : Program) (q : V) (w : Bool) (r : Run) (t : F) (h : H) (N : Nx) : Prop := ∃ b, (∀ k, vG q w k = k b) ∧ ((b = true ∧ OR P r t h N) ∨ (b = false ∧ N.go P (.tu []) h))
theorem b_of {b c : Bool} (e : ∀ k : Bool → Bool, k b = k c) : c = b := (e id).symm
theorem v_of {v u : V} (e : ∀ k : V → Bool, k v = k u) : u = v := by
  have := e fun x => @decide (x = v) (Classical.propDecidable _)
  simp at this
  exact this
theorem f_of {v u : F} (e : ∀ k : F → Bool, k v = k u) : u = v := by
  have := e fun x => @decide (x = v) (Classical.propDecidable _)
  simp at this
  exact this
theorem l_of {v u : List V} (e : ∀ k : List V → Bool, k v = k u) : u = v := by
  have := e fun x => @decide (x = v) (Classical.propDecidable _)
  simp at this
  exact this
theorem vh_of {v u : V} {h g : H} (e : ∀ k : V → H → Bool, k v h = k u g) : u = v ∧ g = h := by
  have := e fun x y => @decide (x = v ∧ y = h) (Classical.propDecidable _)
  simp at this
  exact ⟨this.1, this.2⟩
section
variable {P : Program} {l : List CO} {t : F} {h : H} {K : F → H → Prop} {r : Run} {n g : Nat} {w b : Bool}
theorem wo_nil : WO P [] t h K = K t h := propext ⟨fun ⟨_, _, ⟨e1, e2⟩, k⟩ => by subst e1; subst e2; exact k, fun k => ⟨t, h, ⟨rfl, rfl⟩, k⟩⟩
theorem do_nil : DO P [] t h K = K t h := propext ⟨fun ⟨_, _, ⟨e1, e2⟩, k⟩ => by subst e1; subst e2; exact k, fun k => ⟨t, h, ⟨rfl, rfl⟩, k⟩⟩
theorem putS {v : V} (k : F → Bool) : putD (.some (slOf n)) v t k = k (put n v t) := sPut_put n v t k
theorem wo_c : WO P (.mk .none (.some (slOf n)) b (.mk r) :: l) t h K = OR P r t h (.w n l t K) := by
  apply propext; constructor
  · rintro ⟨t', h', ⟨t1, h1, ⟨q, g1, g2⟩, e⟩, k⟩
    have hq := b_of (b := true) (c := q) fun k => g1 k
    subst hq
    rcases g2 with ⟨_, v, rr, p⟩ | ⟨e', _⟩
    · have := f_of fun k => (putS k).symm.trans (p k)
      subst this
      exact ⟨v, h1, rr, t', h', e, k⟩
    · cases e'
  · rintro ⟨v, h1, rr, t', h', e, k⟩
    exact ⟨t', h', ⟨_, h1, ⟨true, fun _ => rfl, .inl ⟨rfl, v, rr, fun k => putS k⟩⟩, e⟩, k⟩
theorem wo_0 : WO P (.mk .none .none b (.mk r) :: l) t h K = OR P r t h (.w0 l t K) := by
  apply propext; constructor
  · rintro ⟨t', h', ⟨t1, h1, ⟨q, g1, g2⟩, e⟩, k⟩
    have hq := b_of (b := true) (c := q) fun k => g1 k
    subst hq
    rcases g2 with ⟨_, v, rr, p⟩ | ⟨e', _⟩
    · have := f_of fun k => p k
      subst this
      exact ⟨v, h1, rr, t', h', e, k⟩
    · cases e'
  · rintro ⟨v, h1, rr, t', h', e, k⟩
    exact ⟨t', h', ⟨_, h1, ⟨true, fun _ => rfl, .inl ⟨rfl, v, rr, fun k => rfl⟩⟩, e⟩, k⟩
theorem wo_g : WO P (.mk (.some (slOf g) w) (.some (slOf n)) b (.mk r) :: l) t h K = GD P (get g t) w r t h (.w n l t K) := by
  apply propext; constructor
  · rintro ⟨t', h', ⟨t1, h1, ⟨q, g1, g2⟩, e⟩, k⟩
    refine ⟨q, g1, ?_⟩
    rcases g2 with ⟨rfl, v, rr, p⟩ | ⟨rfl, rfl, p⟩
    · have := f_of fun k => (putS k).symm.trans (p k)
      subst this
      exact .inl ⟨rfl, v, h1, rr, t', h', e, k⟩
    · have := f_of fun k => (putS k).symm.trans (p k)
      subst this
      exact .inr ⟨rfl, t', h', e, k⟩
  · rintro ⟨q, g1, ⟨rfl, v, h1, rr, t', h', e, k⟩ | ⟨rfl, t', h', e, k⟩⟩
    · exact ⟨t', h', ⟨_, h1, ⟨true, g1, .inl ⟨rfl, v, rr, fun k => putS k⟩⟩, e⟩, k⟩
    · exact ⟨t', h', ⟨_, h, ⟨false, g1, .inr ⟨rfl, rfl, fun k => putS k⟩⟩, e⟩, k⟩
theorem wo_g0 : WO P (.mk (.some (slOf g) w) .none b (.mk r) :: l) t h K = GD P (get g t) w r t h (.w0 l t K) := by
  apply propext; constructor
  · rintro ⟨t', h', ⟨t1, h1, ⟨q, g1, g2⟩, e⟩, k⟩
    refine ⟨q, g1, ?_⟩
    rcases g2 with ⟨rfl, v, rr, p⟩ | ⟨rfl, rfl, p⟩
    · have := f_of fun k => p k
      subst this
      exact .inl ⟨rfl, v, h1, rr, t', h', e, k⟩
    · have := f_of fun k => p k
      subst this
      exact .inr ⟨rfl, t', h', e, k⟩
  · rintro ⟨q, g1, ⟨rfl, v, h1, rr, t', h', e, k⟩ | ⟨rfl, t', h', e, k⟩⟩
    · exact ⟨t', h', ⟨_, h1, ⟨true, g1, .inl ⟨rfl, v, rr, fun k => rfl⟩⟩, e⟩, k⟩
    · exact ⟨t', h', ⟨_, h, ⟨false, g1, .inr ⟨rfl, rfl, fun k => rfl⟩⟩, e⟩, k⟩
theorem do_c : DO P (.mk .none (.some (slOf n)) true (.mk r) :: l) t h K = OR P r t h (.d n l t K) := by
  apply propext; constructor
  · rintro ⟨t', h', ⟨t1, h1, ⟨q, g1, g2⟩, e⟩, k⟩
    have hq := b_of (b := true) (c := q) fun k => g1 k
    subst hq
    rcases g2 with ⟨_, v, rr, p⟩ | ⟨e', _⟩
    · have := f_of fun k => (putS k).symm.trans (p k)
      subst this
      exact ⟨v, h1, rr, t', h', e, k⟩
    · cases e'
  · rintro ⟨v, h1, rr, t', h', e, k⟩
    exact ⟨t', h', ⟨_, h1, ⟨true, fun _ => rfl, .inl ⟨rfl, v, rr, fun k => putS k⟩⟩, e⟩, k⟩
theorem do_0 : DO P (.mk .none .none true (.mk r) :: l) t h K = OR P r t h (.d0 l t K) := by
  apply propext; constructor
  · rintro ⟨t', h', ⟨t1, h1, ⟨q, g1, g2⟩, e⟩, k⟩
    have hq := b_of (b := true) (c := q) fun k => g1 k
    subst hq
    rcases g2 with ⟨_, v, rr, p⟩ | ⟨e', _⟩
    · have := f_of fun k => p k
      subst this
      exact ⟨v, h1, rr, t', h', e, k⟩
    · cases e'
  · rintro ⟨v, h1, rr, t', h', e, k⟩
    exact ⟨t', h', ⟨_, h1, ⟨true, fun _ => rfl, .inl ⟨rfl, v, rr, fun k => rfl⟩⟩, e⟩, k⟩
theorem do_g : DO P (.mk (.some (slOf g) w) (.some (slOf n)) true (.mk r) :: l) t h K = GD P (get g t) w r t h (.d n l t K) := by
  apply propext; constructor
  · rintro ⟨t', h', ⟨t1, h1, ⟨q, g1, g2⟩, e⟩, k⟩
    refine ⟨q, g1, ?_⟩
    rcases g2 with ⟨rfl, v, rr, p⟩ | ⟨rfl, rfl, p⟩
    · have := f_of fun k => (putS k).symm.trans (p k)
      subst this
      exact .inl ⟨rfl, v, h1, rr, t', h', e, k⟩
    · have := f_of fun k => (putS k).symm.trans (p k)
      subst this
      exact .inr ⟨rfl, t', h', e, k⟩
  · rintro ⟨q, g1, ⟨rfl, v, h1, rr, t', h', e, k⟩ | ⟨rfl, t', h', e, k⟩⟩
    · exact ⟨t', h', ⟨_, h1, ⟨true, g1, .inl ⟨rfl, v, rr, fun k => putS k⟩⟩, e⟩, k⟩
    · exact ⟨t', h', ⟨_, h, ⟨false, g1, .inr ⟨rfl, rfl, fun k => putS k⟩⟩, e⟩, k⟩
theorem do_u : DO P (.mk .none (.some (slOf n)) false (.mk r) :: l) t h K = OR P r t (reFloor h) (.u n l t h K) := by
  apply propext; constructor
  · rintro ⟨t', h', ⟨t1, h1, ⟨q, g1, g2⟩, e⟩, k⟩
    have hq := b_of (b := true) (c := q) fun k => g1 k
    subst hq
    rcases g2 with ⟨_, v, h2, rr, rfl, p⟩ | ⟨e', _⟩
    · have := f_of fun k => (putS k).symm.trans (p k)
      subst this
      exact ⟨v, h2, rr, t', h', e, k⟩
    · cases e'
  · rintro ⟨v, h2, rr, t', h', e, k⟩
    exact ⟨t', h', ⟨_, _, ⟨true, fun _ => rfl, .inl ⟨rfl, v, h2, rr, rfl, fun k => putS k⟩⟩, e⟩, k⟩
theorem do_u0 : DO P (.mk .none .none false (.mk r) :: l) t h K = OR P r t (reFloor h) (.u0 l t h K) := by
  apply propext; constructor
  · rintro ⟨t', h', ⟨t1, h1, ⟨q, g1, g2⟩, e⟩, k⟩
    have hq := b_of (b := true) (c := q) fun k => g1 k
    subst hq
    rcases g2 with ⟨_, v, h2, rr, rfl, p⟩ | ⟨e', _⟩
    · have := f_of fun k => p k
      subst this
      exact ⟨v, h2, rr, t', h', e, k⟩
    · cases e'
  · rintro ⟨v, h2, rr, t', h', e, k⟩
    exact ⟨t', h', ⟨_, _, ⟨true, fun _ => rfl, .inl ⟨rfl, v, h2, rr, rfl, fun k => rfl⟩⟩, e⟩, k⟩
theorem unFloor_re (h : H) : unFloor h (reFloor h) = h := by cases h; rfl
theorem do_gu : DO P (.mk (.some (slOf g) w) (.some (slOf n)) false (.mk r) :: l) t h K = GD P (get g t) w r t (reFloor h) (.u n l t h K) := by
  apply propext; constructor
  · rintro ⟨t', h', ⟨t1, h1, ⟨q, g1, g2⟩, e⟩, k⟩
    refine ⟨q, g1, ?_⟩
    rcases g2 with ⟨rfl, v, h2, rr, rfl, p⟩ | ⟨rfl, rfl, p⟩
    · have := f_of fun k => (putS k).symm.trans (p k)
      subst this
      exact .inl ⟨rfl, v, h2, rr, t', h', e, k⟩
    · have := f_of fun k => (putS k).symm.trans (p k)
      subst this
      exact .inr ⟨rfl, t', h', by rw [unFloor_re]; exact e, k⟩
  · rintro ⟨q, g1, ⟨rfl, v, h2, rr, t', h', e, k⟩ | ⟨rfl, t', h', e, k⟩⟩
    · exact ⟨t', h', ⟨_, _, ⟨true, g1, .inl ⟨rfl, v, h2, rr, rfl, fun k => putS k⟩⟩, e⟩, k⟩
    · rw [unFloor_re] at e
      exact ⟨t', h', ⟨_, h, ⟨false, g1, .inr ⟨rfl, rfl, fun k => putS k⟩⟩, e⟩, k⟩
end
section
variable {P : Program} {l : List CO} {t : F} {h h0 : H} {K : F → H → Prop} {n : Nat} {v : V}
theorem go_w : (Nx.w n l t K).go P v h = WO P l (put n v t) h K := rfl
theorem go_w0 : (Nx.w0 l t K).go P v h = WO P l t h K := rfl
theorem go_d : (Nx.d n l t K).go P v h = DO P l (put n v t) h K := rfl
theorem go_d0 : (Nx.d0 l t K).go P v h = DO P l t h K := rfl
theorem go_u : (Nx.u n l t h0 K).go P v h = DO P l (put n v t) (unFloor h0 h) K := rfl
theorem go_u0 : (Nx.u0 l t h0 K).go P v h = DO P l t (unFloor h0 h) K := rfl
end
section
variable {P : Program} {r : Run} {t : F} {h : H} {N : Nx} {w q : Bool}
theorem gd_eq : GD P (.b q) w r t h N = if q = w then OR P r t h N else N.go P (.tu []) h := by
  have e1 : ∀ f, vG (.b q) w f = f (xor (xor q w) true) := fun _ => rfl
  apply propext; constructor
  · rintro ⟨b, g1, g2⟩
    have := b_of fun k => (e1 k).symm.trans (g1 k)
    subst this
    rcases g2 with ⟨e, k⟩ | ⟨e, k⟩
    · rw [if_pos (by cases q <;> cases w <;> simp_all)]; exact k
    · rw [if_neg (by cases q <;> cases w <;> simp_all)]; exact k
  · intro k
    refine ⟨_, e1, ?_⟩
    split at k
    · rename_i e; exact .inl ⟨by cases q <;> cases w <;> simp_all, k⟩
    · rename_i e; exact .inr ⟨by cases q <;> cases w <;> simp_all, k⟩
theorem gd_tt : GD P (.b true) true r t h N = OR P r t h N := by rw [gd_eq]; rfl
theorem gd_ff : GD P (.b false) false r t h N = OR P r t h N := by rw [gd_eq]; rfl
theorem gd_tf : GD P (.b true) false r t h N = N.go P (.tu []) h := by rw [gd_eq]; rfl
theorem gd_ft : GD P (.b false) true r t h N = N.go P (.tu []) h := by rw [gd_eq]; rfl
theorem gd_tu : GD P (.tu []) w r t h N = N.go P (.tu []) h := by
  have e1 : ∀ f, vG (.tu []) w f = f false := fun _ => rfl
  apply propext; constructor
  · rintro ⟨b, g1, g2⟩
    have := b_of fun k => (e1 k).symm.trans (g1 k)
    subst this
    rcases g2 with ⟨e, k⟩ | ⟨e, k⟩
    · cases e
    · exact k
  · intro k; exact ⟨_, e1, .inr ⟨rfl, k⟩⟩
/-- a guard that isn't decided -/
theorem gd_split (a : q = true → GD P (.b true) w r t h N) (b : q = false → GD P (.b false) w r t h N) : GD P (.b q) w r t h N := by
  cases q with
  | true => exact a rfl
  | false => exact b rfl
end
def HV (P : Program) (g : (V → Bool) → Bool) (h : H) (N : Nx) : Prop := ∃ v, (∀ k, g k = k v) ∧ N.go P v h
def H1 (P : Program) (g : V → (V → Bool) → Bool) (x : V) (h : H) (N : Nx) : Prop := HV P (g x) h N
def H2 (P : Program) (g : V → V → (V → Bool) → Bool) (x y : V) (h : H) (N : Nx) : Prop := HV P (g x y) h N
def H3 (P : Program) (g : V → V → V → (V → Bool) → Bool) (x y z : V) (h : H) (N : Nx) : Prop := HV P (g x y z) h N
theorem or_hv {P : Program} {r : Run} {t : F} {h : H} {N : Nx} {g : (V → Bool) → Bool} (e : ∀ cf k, r cf t h k = g fun v => k v h) : OR P r t h N = HV P g h N := by
  apply propext; constructor
  · rintro ⟨v, h', ⟨cf, c1, c2⟩, k⟩
    have hh : h' = h := by
      have h1 := c2 fun _ x => @decide (x = h) (Classical.propDecidable _)
      have h2 := c2 fun _ _ => true
      have e1 := e cf fun _ x => @decide (x = h) (Classical.propDecidable _)
      have e2 := e cf fun _ _ => true
      have : (fun (v : V) => (fun _ x => @decide (x = h) (Classical.propDecidable _)) v h) = fun (v : V) => (fun _ _ => true) v h := by funext v; simp
      rw [this, ← e2] at e1
      have h1' : r cf t h (fun _ x => @decide (x = h) (Classical.propDecidable _)) = @decide (h' = h) (Classical.propDecidable _) := h1
      have h2' : r cf t h (fun _ _ => true) = true := h2
      rw [e1, h2'] at h1'
      simpa using h1'.symm
    subst hh
    exact ⟨v, fun k0 => by rw [← e cf fun v _ => k0 v]; exact c2 _, k⟩
  · rintro ⟨v, g1, k⟩
    exact ⟨v, h, ⟨_, cfSome P, fun k => by show r _ t h k = _; rw [e, g1]⟩, k⟩
theorem hv_of {P : Program} {h : H} {N : Nx} {g : (V → Bool) → Bool} {v : V} (e : ∀ k, g k = k v) : HV P g h N = N.go P v h :=
  propext ⟨fun ⟨u, g1, k⟩ => by have := v_of fun k => (e k).symm.trans (g1 k); subst this; exact k, fun k => ⟨v, e, k⟩⟩
noncomputable def gBin (f : BinF) (x y : V) (k : V → Bool) : Bool := vI x fun kd a => vI y fun kd' b => ifK (kdEq kd kd') fun _ => f kd a b k
noncomputable def gShift (f : IntKind → Int → Nat → (V → Bool) → Bool) (x y : V) (k : V → Bool) : Bool := vI x fun kd a => vI y fun _ b => natK b fun n => f kd a (min n kd.bits) k
noncomputable def gRem (x y : V) (k : V → Bool) : Bool := vI y fun kd' b => vIR x (fun kd a => ifK (kdEq kd kd') fun _ => fRem kd a b k) fun kd m r _ => remR kd' b k kd m r
noncomputable def gBool (ne : Bool) (x y : V) (k : V → Bool) : Bool := vB x fun a => vB y fun b => k (.b (xor ne (xor (xor a b) true)))
noncomputable def gNot (x : V) (k : V → Bool) : Bool := vB x fun a => k (.b (!a))
noncomputable def gNeg (x : V) (k : V → Bool) : Bool := vI x fun kd n => wrapF (Int.neg n) kd (mxOf kd) k
noncomputable def gConv (kd : IntKind) (x : V) (k : V → Bool) : Bool := vIR x (fun _ n => k (.i kd (kd.wrap n))) fun _ m r hi => ifK (Nat.ble hi (mxOf kd)) fun _ => k (.r kd m r hi)
noncomputable def gExt (j : Nat) (x : V) (k : V → Bool) : Bool := vT x fun vs => optK (vs[j]?) k
noncomputable def gLenS (x : V) (k : V → Bool) : Bool := vS x fun n _ => k (.i .i64 (.ofNat n))
noncomputable def gLen (x : V) (k : V → Bool) : Bool := lenV x fun n => k (.i .i64 (n : Int))
noncomputable def gMin (x y : V) (k : V → Bool) : Bool := vI x fun kd a => vI y fun kd' b => ifK (kdEq kd kd') fun _ => k (.i kd (min a b))
noncomputable def gMax (x y : V) (k : V → Bool) : Bool := vI x fun kd a => vI y fun kd' b => ifK (kdEq kd kd') fun _ => k (.i kd (max a b))
noncomputable def gPick (c x y : V) (k : V → Bool) : Bool := vB c fun q => k (cond q x y)
noncomputable def gField (d : Nat) (x : V) (k : V → Bool) : Bool := vA x fun cs => optK (cs[d]?) k
noncomputable def gFieldA (d size : Nat) (x : V) (k : V → Bool) : Bool := vA x fun cs => k (.a ((cs.drop d).take size))
noncomputable def gFieldAddr (d : Nat) (x : V) (k : V → Bool) : Bool := vP x fun id g off fin => k (.p id g (off + d) fin)
noncomputable def gNilCheck (x : V) (k : V → Bool) : Bool := vP x fun id g off fin => k (.p id g off fin)
noncomputable def gIndex (size : Nat) (x y : V) (k : V → Bool) : Bool := vI y fun _ n => natK n fun n => idxV size x n k
noncomputable def gIndexArr (len size : Nat) (x y : V) (k : V → Bool) : Bool := vP x fun id g off fin => vI y fun _ n => natK n fun n => ifK (Nat.ble (Nat.succ n) len) fun _ => k (.p id g (off + n * size) fin)
noncomputable def gSIndex (x y : V) (k : V → Bool) : Bool := vI y fun _ n => natK n fun n => sixV x n k
noncomputable def gAIndex (len size : Nat) (x y : V) (k : V → Bool) : Bool := vA x fun cs => vI y fun _ n => natK n fun n => ifK (Nat.ble (Nat.succ n) len) fun _ => optK (cs[Nat.mul n size]?) k
noncomputable def gSS2 (x a b : V) (k : V → Bool) : Bool := vI a fun _ p => natK p fun p => vI b fun _ q => natK q fun q => ssV x p q k
noncomputable def gSS1 (x b : V) (k : V → Bool) : Bool := vI b fun _ q => natK q fun q => ssV x 0 q k
noncomputable def gSSa (x a : V) (k : V → Bool) : Bool := vI a fun _ p => natK p fun p => ssaV x p k
noncomputable def gMoveS (x : V) (k : V → Bool) : Bool := vS x fun l n => k (.s l n)
noncomputable def gNil (f : V → (Bool → Bool) → Bool) (ne : Bool) (x y : V) (k : V → Bool) : Bool := f x fun a => f y fun b => ifK (a || b) fun _ => k (.b (xor ne (a && b)))
noncomputable def gSliceArr (n size : Nat) (x a : V) (k : V → Bool) : Bool := vP x fun id g off fin => vI a fun _ p => natK p fun p => ifK (Nat.ble p n) fun _ => sliceC size id g off n fin n p n k
section
variable {P : Program} {t : F} {h : H} {N : Nx} (o x y c : O)
theorem or_move : OR P (doMove o) t h N = N.go P (oV o t) h := (or_hv (g := fun k => k (oV o t)) fun cf k => ev_move ..).trans (hv_of fun _ => rfl)
theorem or_pick : OR P (doPick c x y) t h N = H3 P gPick (oV c t) (oV x t) (oV y t) h N := or_hv fun cf k => ev_pick ..
theorem or_bin (f : BinF) : OR P (bin2 f x y) t h N = H2 P (gBin f) (oV x t) (oV y t) h N := or_hv fun cf k => ev_bin ..
theorem or_shift (f : IntKind → Int → Nat → (V → Bool) → Bool) : OR P (doShift f x y) t h N = H2 P (gShift f) (oV x t) (oV y t) h N := or_hv fun cf k => ev_shift ..
theorem or_rem : OR P (doRem x y) t h N = H2 P gRem (oV x t) (oV y t) h N := or_hv fun cf k => ev_rem ..
theorem or_bool (ne : Bool) : OR P (doBool ne x y) t h N = H2 P (gBool ne) (oV x t) (oV y t) h N := or_hv fun cf k => ev_bool ..
theorem or_not : OR P (doNot x) t h N = H1 P gNot (oV x t) h N := or_hv fun cf k => ev_not ..
theorem or_neg : OR P (doNeg x) t h N = H1 P gNeg (oV x t) h N := or_hv fun cf k => by simp only [doNeg, oE_eq]; rfl
theorem or_conv (kd : IntKind) : OR P (doConv kd x) t h N = H1 P (gConv kd) (oV x t) h N := or_hv fun cf k => ev_convR ..
theorem or_ext (j : Nat) : OR P (doExtract j x) t h N = H1 P (gExt j) (oV x t) h N := or_hv fun cf k => ev_extract ..
theorem or_lenS : OR P (doLenS x) t h N = H1 P gLenS (oV x t) h N := or_hv fun cf k => ev_lenS ..
theorem or_len : OR P (doLen x) t h N = H1 P gLen (oV x t) h N := or_hv fun cf k => ev_len ..
theorem or_min : OR P (doMin x y) t h N = H2 P gMin (oV x t) (oV y t) h N := or_hv fun cf k => ev_min ..
theorem or_max : OR P (doMax x y) t h N = H2 P gMax (oV x t) (oV y t) h N := or_hv fun cf k => ev_max ..
theorem or_field (d : Nat) : OR P (doField d o) t h N = H1 P (gField d) (oV o t) h N := or_hv fun cf k => ev_field ..
theorem or_fieldA (d size : Nat) : OR P (doFieldA d size o) t h N = H1 P (gFieldA d size) (oV o t) h N := or_hv fun cf k => ev_fieldA ..
theorem or_fieldAddr (d : Nat) : OR P (doFieldAddr d o) t h N = H1 P (gFieldAddr d) (oV o t) h N := or_hv fun cf k => ev_fieldAddr ..
theorem or_nilCheck : OR P (doNilCheck o) t h N = H1 P gNilCheck (oV o t) h N := or_hv fun cf k => ev_nilCheck ..
theorem or_idx (size : Nat) : OR P (doIndexAddr size o x) t h N = H2 P (gIndex size) (oV o t) (oV x t) h N := or_hv fun cf k => ev_idx ..
theorem or_idxArr (len size : Nat) : OR P (doIndexAddrArr len size o x) t h N = H2 P (gIndexArr len size) (oV o t) (oV x t) h N := or_hv fun cf k => ev_idxArr ..
theorem or_sindex : OR P (doSIndex x y) t h N = H2 P gSIndex (oV x t) (oV y t) h N := or_hv fun cf k => ev_sindex ..
theorem or_aindex (len size : Nat) : OR P (doAIndex len size x y) t h N = H2 P (gAIndex len size) (oV x t) (oV y t) h N := or_hv fun cf k => by simp only [doAIndex, oE_eq, forceV_eq]; rfl
theorem or_concat : OR P (doConcat x y) t h N = H2 P catV (oV x t) (oV y t) h N := or_hv fun cf k => ev_concat ..
theorem or_scmp (f : Nat → Nat → Nat → Nat → Bool) : OR P (doSCmp f x y) t h N = H2 P (scV f) (oV x t) (oV y t) h N := or_hv fun cf k => ev_scmp ..
theorem or_cmpS : OR P (doCmpS x y) t h N = H2 P cmV (oV x t) (oV y t) h N := or_hv fun cf k => ev_cmpS ..
theorem or_ss2 (a b : O) : OR P (doSSlice x (some a) (some b)) t h N = H3 P gSS2 (oV x t) (oV a t) (oV b t) h N := or_hv fun cf k => ev_ss2 ..
theorem or_ss1 (b : O) : OR P (doSSlice x none (some b)) t h N = H2 P gSS1 (oV x t) (oV b t) h N := or_hv fun cf k => ev_ss1 ..
theorem or_ssa (a : O) : OR P (doSSlice x (some a) none) t h N = H2 P gSSa (oV x t) (oV a t) h N := or_hv fun cf k => ev_ssa ..
theorem or_moveS : OR P (doMoveS x) t h N = H1 P gMoveS (oV x t) h N := or_hv fun cf k => by simp only [doMoveS, oE_eq]; rfl
theorem or_nil (f : V → (Bool → Bool) → Bool) (ne : Bool) : OR P (doNil f ne x y) t h N = H2 P (gNil f ne) (oV x t) (oV y t) h N := or_hv fun cf k => by simp only [doNil, oE_eq, fB_eq]; rfl
theorem or_sliceArr (n size : Nat) (a : O) : OR P (doSliceArr n size x (some a) none) t h N = H2 P (gSliceArr n size) (oV x t) (oV a t) h N := or_hv fun cf k => ev_sliceArr ..
end
end Go.Ev

set_option linter.all false
namespace Go.Ev
open Go
/-- a block of the call's own, with its elements' type -/
def OwnE (h : H) (id : B) (el : Nat) (xs : List V) : Prop := ∃ blk, h.heap.get id = some blk ∧ blk.cur = 0 ∧ blk.min = 0 ∧ blk.fr = 0 ∧ blk.el = el ∧ B.val h.floor ≤ B.val id ∧ B.val id < B.val h.next ∧ ∀ i y, xs[i]? = some y → blk.cells.getN i = some y
theorem OwnE.own {h : H} {id : B} {el : Nat} {xs : List V} (o : OwnE h id el xs) : Own h id xs := by
  obtain ⟨blk, h1, h2, h3, h4, h5, h6, h7, h8⟩ := o
  exact ⟨blk, h1, h2, h3, h4, h6, h7, h8⟩
theorem OwnE.stay {p : B → Prop} {h h' : H} {id : B} {el : Nat} {xs : List V} (o : OwnE h id el xs) (s : Stay p h h') (hp : ¬ p id) : OwnE h' id el xs := by
  obtain ⟨blk, h1, h2, h3, h4, h5, h6, h7, h8⟩ := o
  exact ⟨blk, (s.get id h7 hp).trans h1, h2, h3, h4, h5, by rw [s.floor]; exact h6, Nat.lt_of_lt_of_le h7 s.next, h8⟩
theorem OwnE.lt {h : H} {id : B} {el : Nat} {xs : List V} (o : OwnE h id el xs) : B.val id < B.val h.next := by obtain ⟨_, _, _, _, _, _, _, h7, _⟩ := o; exact h7
theorem store_ownE {h : H} {id : B} {el : Nat} {xs : List V} {j fin : Nat} {y : V} (o : OwnE h id el xs) (hj : j < fin) (hfit : j < 2 ^ 37) (h1 : oneV y = true) : ∃ h', (∀ k, store h id 0 j fin [y] k = k h') ∧ OwnE h' id el (xs.set j y) ∧ Stay (fun i => i = id) h h' := by
  obtain ⟨blk, a1, a2, a3, a4, a8, a5, a6, a7⟩ := o
  obtain ⟨next, floor, heap⟩ := h
  obtain ⟨cur, min, sz, cells, bel, fr⟩ := blk
  simp only at a2 a3 a4 a7 a8
  subst a2; subst a3; subst a4; subst a8
  obtain ⟨tr, t1, t2, t3⟩ := setList_fine [y] j cells (by simp; omega)
  obtain ⟨hp, s1, s2, s3⟩ := setK_ok id (⟨0, 0, sz, tr, bel, 0⟩ : Blk) heap
  have e1 : B.geB floor id = true := by cases floor <;> first | rfl | (show Nat.ble _ _ = true; rw [Nat.ble_eq]; exact a5)
  have e2 : Nat.ble (Nat.add j 1) fin = true := by rw [Nat.ble_eq]; exact hj
  have e3 : allOne [y] = true := by show Bool.rec false true (oneV y) = true; rw [h1]
  have e4 : frOk 0 j = true := rfl
  have e5 : Nat.beq 0 0 = true := rfl
  have e6 : Nat.ble 0 0 = true := rfl
  have a1' : heap.get id = some ⟨0, 0, sz, cells, bel, 0⟩ := a1
  refine ⟨⟨next, floor, hp⟩, fun k => ?_, ⟨_, s2, rfl, rfl, rfl, rfl, a5, a6, fun i z hz => ?_⟩, ⟨rfl, Nat.le_refl _, fun i _ hi => s3 i hi⟩⟩
  · simp only [store, hK_mk, a1', optK_some, blkK_mk, List.length_singleton, e5, e6, e1, e2, e3, e4, ifK_true]
    rw [t1, s1]
  · show tr.getN i = some z
    rw [List.getElem?_set] at hz
    split at hz
    · rename_i hij
      subst hij
      split at hz
      · cases hz
        exact t2 0 y rfl
      · cases hz
    · rename_i hij
      rw [t3 i (by simp; omega)]
      exact a7 i z hz
section
variable {P : Program} {S : Spec} {l : List CO} {t : F} {h : H} {K : F → H → Prop}
end
theorem elK_own {h : H} {id : B} {el : Nat} {xs : List V} (o : OwnE h id el xs) (k : Unit → Bool) : elK h id 0 el k = k () := by
  obtain ⟨blk, h1, h2, h3, h4, h5, h6, h7, h8⟩ := o
  obtain ⟨next, floor, heap⟩ := h
  obtain ⟨cur, min, sz, cells, bel, fr⟩ := blk
  simp only at h3 h5
  subst h3; subst h5
  have h1' : heap.get id = some ⟨cur, 0, sz, cells, bel, fr⟩ := h1
  have e1 : Nat.ble 0 0 = true := rfl
  have e2 : Nat.beq bel bel = true := Nat.beq_refl bel
  simp only [elK, hK_mk, h1', optK_some, blkK_mk, e1, e2, ifK_true]
section
variable (cf : CallF) (t : F) (h : H) (k : V → H → Bool) (x y : O)
theorem ev_p2u : doP2U x cf t h k = vP (oV x t) fun id g off fin => load1 h id g off fin fun _ => k (.p id g off fin) h := by simp only [doP2U, oE_eq]
theorem ev_u2p (u size : Nat) : doU2P u size x cf t h k = vP (oV x t) fun id g off fin => ifK (Nat.beq off 0) fun _ => ifK (Nat.ble size fin) fun _ => elK h id g u fun _ => k (.p id g off fin) h := by simp only [doU2P, oE_eq]
theorem ev_ptr (ne : Bool) : doPtr ne x y cf t h k = vPZ (oV x t) (fun _ => vPZ (oV y t) (fun _ => k (.b (!ne)) h) fun _ _ _ _ => k (.b ne) h) (ptrK ne (oV y t) fun v => k v h) := by simp only [doPtr, oE_eq, fB_eq]
theorem ptrK_p0 (ne : Bool) (k : V → Bool) (id : B) (g off fin : Nat) : ptrK ne .p0 k id g off fin = k (.b ne) := by
  unfold ptrK
  rw [vPZ_p0, fB_eq]
theorem ptrK_same (ne : Bool) (k : V → Bool) (id : B) (g off fin fin' : Nat) : ptrK ne (.p id g off fin) k id g off fin' = k (.b (xor ne true)) := by
  unfold ptrK
  rw [vPZ_p, Nat.beq_refl, ifK_true, Nat.beq_refl, ifK_true, Nat.beq_refl, fB_eq]
theorem ev_sdata : doSData x cf t h k = vL (oV x t) (fun _ => k .p0 h) fun id g off len fin _ => ifK (Nat.ble 1 len) fun _ => k (.p id g off fin) h := by simp only [doSData, oE_eq]
end
theorem unpK_map : ∀ (m : Nat) (l : List UInt8) (acc : List V) (k : List V → Bool), l.length = m → unpK m (pk l) acc k = k (l.map bv ++ acc) := by
  intro m
  induction m with
  | zero =>
    intro l acc k h
    have : l = [] := List.eq_nil_of_length_eq_zero h
    subst this; rfl
  | succ m ih =>
    intro l acc k h
    have hne : l ≠ [] := by intro h0; subst h0; simp at h
    obtain ⟨l', b, rfl⟩ : ∃ l' b, l = l' ++ [b] := ⟨l.dropLast, l.getLast hne, (List.dropLast_concat_getLast hne).symm⟩
    have hs := pk_split l' [b]
    have hb : pk [b] = b.toNat := by simp [pk]
    simp only [List.length_cons, List.length_nil, Nat.zero_add, Nat.pow_one, hb] at hs
    show fN (Nat.mod (pk (l' ++ [b])) 256) (fun c => fN (Nat.div (pk (l' ++ [b])) 256) fun n => unpK m n (.i .u8 (.ofNat c) :: acc) k) = _
    rw [fN_eq, fN_eq]
    have e1 : Nat.mod (pk (l' ++ [b])) 256 = b.toNat := hs.2
    have e2 : Nat.div (pk (l' ++ [b])) 256 = pk l' := hs.1
    rw [e1, e2, ih l' _ k (by simpa using h)]
    simp [bv]
theorem allOne_bv : ∀ l : List UInt8, allOne (l.map bv) = true
  | [] => rfl
  | _ :: l => allOne_bv l
section
variable {P : Program} {S : Spec} {l : List CO} {t : F} {h : H} {K : F → H → Prop}
end
/-- a text out of a slice's bytes, which are frozen -/
theorem ustr_eq {h : H} {el : Nat} {w : V} {a : List UInt8} (hb : Buf h el 1 w (a.map bv)) (hl : a.length ≤ 1048576) (cf : CallF) (t : F) (x y : O)
    (e1 : ∀ k : V → Bool, vL w (fun _ => k .p0) (fun id g off len fin _ => k (.p id g off fin)) = k (oV x t)) (e2 : oV y t = .i .i64 (a.length : Int)) :
    ∃ h', (∀ k, doUStr el x y cf t h k = k (sv a) h') ∧ Stay (isOf w) h h' := by
  rcases hb with ⟨rfl, e⟩ | ⟨id, g, n, blk, rfl, b1, b2, b3, b4, b5, b6, b7, b8, b9, b10⟩
  · have : a = [] := by simpa using e
    subst this
    have hx : oV x t = .p0 := by
      have := e1 fun v => @decide (v = oV x t) (Classical.propDecidable _)
      simp at this
      exact this.symm
    refine ⟨h, fun k => ?_, Stay.refl _ _⟩
    simp only [doUStr, oE_eq, hx, e2, vI_i, kdEq_self, ifK_true, natK_cast, vPZ_p0]
    rfl
  · have hx : oV x t = .p id g 0 (a.map bv).length := by
      have := e1 fun v => @decide (v = oV x t) (Classical.propDecidable _)
      simp at this
      rw [← this]; simp
    have hn : n = a.length := by rw [List.length_map, Nat.mul_one] at b2; exact b2.symm
    subst hn
    have hrow : Row h id g 0 (a.map bv) := ⟨fun _ => ⟨blk, b5, b6.1⟩, fun i y hy => by
      unfold Ev.cell cellB
      rw [b5]
      show (if blk.min ≤ g then blk.cells.getN (0 + i) else none) = _
      rw [if_pos b6.1, Nat.zero_add]
      exact b10 i y hy⟩
    have hld : ∀ k, loadN h id g 0 (a.map bv).length a.length k = k (a.map bv) := fun k => by
      have := loadN_row (n := (a.map bv).length) hrow rfl (by intro h0; have := congrArg List.length h0; simp at this; subst this; simp at b1) (by omega : 0 + (a.map bv).length ≤ (a.map bv).length) k
      rwa [List.length_map] at this ⊢
    obtain ⟨next, floor, heap⟩ := h
    obtain ⟨cur, min, sz, cells, bel, fr⟩ := blk
    simp only at b6 b7 b8 b9 b10
    subst b9; subst b8
    obtain ⟨hp, s1, s2, s3⟩ := setK_ok id (⟨cur, min, sz, cells, bel, a.length + 2⟩ : Blk) heap
    have b5' : heap.get id = some ⟨cur, min, sz, cells, bel, 0⟩ := b5
    have g1 : Nat.ble min g = true := by rw [Nat.ble_eq]; exact b6.1
    have g2 : Nat.beq bel bel = true := Nat.beq_refl bel
    have g3 : B.geB floor id = true := by cases floor <;> first | rfl | (show Nat.ble _ _ = true; rw [Nat.ble_eq]; exact b3)
    have g4 : Nat.ble 1 a.length = true := by rw [Nat.ble_eq]; exact b1
    have g5 : Nat.ble a.length 1048576 = true := by rw [Nat.ble_eq]; exact hl
    refine ⟨⟨next, floor, hp⟩, fun k => ?_, ⟨rfl, Nat.le_refl _, fun i _ hi => s3 i fun e => hi (by subst e; exact ⟨_, _, _, _, _, rfl⟩)⟩⟩
    simp only [doUStr, oE_eq, hx, e2, vI_i, kdEq_self, ifK_true, natK_cast, vPZ_p]
    unfold uStrK
    have g6 : Nat.beq 0 0 = true := rfl
    rw [g6, ifK_true, g4, ifK_true, g5, ifK_true]
    simp only [elK, hK_mk, b5', optK_some, blkK_mk, g1, g2, ifK_true]
    rw [hld, pack_bv]
    have e0 : 0 * 256 ^ a.length + pk a = pk a := by rw [Nat.zero_mul, Nat.zero_add]
    rw [e0]
    simp only [freezeK, hK_mk, b5', optK_some, blkK_mk, g3, ifK_true]
    show fN (Nat.add a.length 2) (fun fr' => T.setK id ⟨cur, min, sz, cells, bel, fr'⟩ heap fun heap => k (.s a.length (pk a)) ⟨next, floor, heap⟩) = _
    rw [fN_eq]
    exact s1 _
/-- a Builder of the call's own, behind 'lo', in the blocks U, with the bytes a -/
structure Sb (h : H) (lo elB el8 : Nat) (id : B) (U : B → Prop) (a : List UInt8) : Prop where
  made : ∃ adr w, OwnE h id elB [adr, w] ∧ (adr = .p0 ∨ adr = .p id 0 0 2) ∧ Buf h el8 1 w (a.map bv) ∧ (∀ i, isOf w i → U i) ∧ ¬ isOf w id
  self : U id
  lo : ∀ i, U i → lo ≤ B.val i ∧ B.val i < B.val h.next
theorem Sb.stay {h h' : H} {lo elB el8 : Nat} {id : B} {U p : B → Prop} {a : List UInt8} (s : Sb h lo elB el8 id U a) (st : Stay p h h') (hp : ∀ i, U i → ¬ p i) : Sb h' lo elB el8 id U a := by
  obtain ⟨⟨adr, w, o, ha, b, hw, hn⟩, hs, hlo⟩ := s
  exact ⟨⟨adr, w, o.stay st (hp _ hs), ha, b.stay st fun i hi => hp i (hw i hi), hw, hn⟩, hs, fun i hi => ⟨(hlo i hi).1, Nat.lt_of_lt_of_le (hlo i hi).2 st.next⟩⟩
/-- a slice of one-cell elements of the call's own, behind 'lo' -/
structure Vb (h : H) (lo el : Nat) (v : V) (xs : List V) : Prop where
  buf : Buf h el 1 v xs
  own : ∀ i, isOf v i → lo ≤ B.val i
theorem Vb.lst {h : H} {lo el : Nat} {v : V} {xs : List V} (a : Vb h lo el v xs) : Lst h v xs := a.buf.lst
theorem Vb.nil (h : H) (lo el : Nat) : Vb h lo el .l0 [] := ⟨Buf.nil h el 1, fun i hi => by obtain ⟨_, _, _, _, _, e⟩ := hi; cases e⟩
theorem Vb.stay {p : B → Prop} {h h' : H} {lo el : Nat} {v : V} {xs : List V} (a : Vb h lo el v xs) (s : Stay p h h') (hp : ∀ i, isOf v i → ¬ p i) : Vb h' lo el v xs := ⟨a.buf.stay s hp, a.own⟩
theorem Vb.grow {h h' : H} {lo el : Nat} {v : V} {xs : List V} (a : Vb h lo el v xs) (s : Stay nowhere h h') : Vb h' lo el v xs := ⟨a.buf.grow s, a.own⟩
/-- a new slice of bytes, in a block of the call's own that begins at 0; its end is marked, so that it is no Buf -/
theorem s2b_new (el : Nat) {l : List UInt8} {h : H} (hf : B.val h.floor ≤ B.val h.next) (hl : l.length ≤ 1048576) :
    ∃ h', (∀ (x : O) (t : F) (cf : CallF) (k : V → H → Bool), oV x t = sv l → doS2B el x cf t h k = k (.l h.next 0 0 l.length l.length (capF l.length)) h') ∧ Stay nowhere h h' ∧ B.val h'.next = B.val h.next + 1 ∧
      Row h' h.next 0 0 (l.map bv) ∧ Lst h' (.l h.next 0 0 l.length l.length (capF l.length)) (l.map bv) ∧
      ∃ cells, h'.heap.get h.next = some ⟨0, 0, l.length, cells, el, 1⟩ ∧ ∀ i y, (l.map bv)[i]? = some y → cells.getN i = some y := by
  obtain ⟨⟨nx, fl, heap⟩, a1, a2, a3, ⟨cur, min, sz, cells, bel, fr⟩, b1, b2, b3, b4, b5, b6, b7⟩ := alloc_new el (l.map bv) h (by simp; omega)
  simp only at b2 b3 b4 b5 b6 b7
  subst b2; subst b3; subst b5; subst b6
  rw [List.length_map] at b4
  subst b4
  obtain ⟨hp, s1, s2, s3⟩ := setK_ok h.next (⟨0, 0, l.length, cells, bel, 1⟩ : Blk) heap
  have hfl : fl = h.floor := a2.floor
  have g3 : B.geB fl h.next = true := by
    rw [hfl]
    cases hfx : h.floor <;> first | rfl | (rw [hfx] at hf; show Nat.ble _ _ = true; rw [Nat.ble_eq]; exact hf)
  have g5 : Nat.ble l.length 1048576 = true := by rw [Nat.ble_eq]; exact hl
  have b1' : heap.get h.next = some ⟨0, 0, l.length, cells, bel, 0⟩ := b1
  have hrow : Row ⟨nx, fl, hp⟩ h.next 0 0 (l.map bv) := by
    refine ⟨fun _ => ⟨_, s2, Nat.le_refl _⟩, fun i y hy => ?_⟩
    unfold Ev.cell cellB
    show (match hp.get h.next with | some b => if b.min ≤ 0 then b.cells.getN (0 + i) else none | none => none) = _
    rw [s2]
    simp only [Nat.le_refl, if_true, Nat.zero_add]
    exact b7 i y hy
  refine ⟨⟨nx, fl, hp⟩, fun x t cf k e => ?_, ⟨a2.floor, a2.next, fun id h1 h2 => (s3 id fun e => by rw [e] at h1; exact absurd h1 (Nat.lt_irrefl _)).trans (a2.get id h1 h2)⟩, a3, hrow,
    .inr ⟨h.next, 0, 0, l.length, capF l.length, by rw [List.length_map], by rw [List.length_map]; omega, by show B.val h.next < B.val nx; have : B.val nx = B.val h.next + 1 := a3; omega, hrow⟩, cells, s2, b7⟩
  simp only [doS2B, oE_eq, e]
  show ifK (Nat.ble l.length 1048576) (fun _ => unpK l.length (pk l) [] fun vs => alloc bel vs h fun id h => markK h id fun h => k (.l id 0 0 l.length l.length (capF l.length)) h) = _
  rw [g5, ifK_true, unpK_map _ _ _ _ rfl, List.append_nil, a1]
  simp only [markK, hK_mk, b1', optK_some, blkK_mk, g3, ifK_true]
  have g0 : Nat.beq 0 0 = true := rfl
  rw [g0, ifK_true]
  exact s1 _
section
variable {P : Program} {S : Spec} {l : List CO} {t : F} {h : H} {K : F → H → Prop}
end
/-- v is the newest slice of its block -/
def Top (h : H) (v : V) : Prop := ∀ id g off n fin cap, v = .l id g off n fin cap → ∃ blk, h.heap.get id = some blk ∧ blk.cur = g
theorem Top.nil (h : H) : Top h .l0 := fun _ _ _ _ _ _ e => by cases e
theorem Top.stay {p : B → Prop} {h h' : H} {v : V} (a : Top h v) (s : Stay p h h') (hl : ∀ id, isOf v id → B.val id < B.val h.next) (hp : ∀ id, isOf v id → ¬ p id) : Top h' v := fun id g off n fin cap e => by
  obtain ⟨blk, h1, h2⟩ := a id g off n fin cap e
  have i : isOf v id := ⟨_, _, _, _, _, e⟩
  exact ⟨blk, (s.get id (hl id i) (hp id i)).trans h1, h2⟩
theorem append_top {h : H} {el size n : Nat} {v : V} {xs vs : List V} (b : Buf h el size v xs) (hf : B.val h.floor ≤ B.val h.next) (hsz : 1 ≤ size) (hn : vs.length = n * size) (h1 : allOne vs = true) (hb : xs.length + vs.length ≤ 1048576) :
    ∃ v' h', (∀ k, append2 el size v n vs h k = k v' h') ∧ Buf h' el size v' (xs ++ vs) ∧ Stay (isOf v) h h' ∧ (∀ id, isOf v' id → isOf v id ∨ B.val h.next ≤ B.val id) ∧ Top h' v' := by
  have hle : n ≤ vs.length := by rw [hn]; exact Nat.le_mul_of_pos_right _ hsz
  rcases b with ⟨rfl, rfl⟩ | ⟨id, g, m, blk, rfl, b1, b2, b3, b4, b5, b6, b7, b8, b9, b10⟩
  · cases n with
    | zero =>
      have : vs = [] := List.eq_nil_of_length_eq_zero (by simpa using hn)
      subst this
      exact ⟨.l0, h, fun k => rfl, Buf.nil h el size, Stay.refl _ h, fun id i => .inl i, fun _ _ _ _ _ _ e => by cases e⟩
    | succ n =>
      obtain ⟨h', a1, a2, a3, blk, c1, c2, c3, c4, c5, c6, c7⟩ := alloc_new el vs h (by omega)
      have hble : Nat.ble (n + 1) 1048576 = true := by rw [Nat.ble_eq]; simp at hb; omega
      refine ⟨.l h.next 0 0 (n + 1) vs.length none, h', fun k => ?_, .inr ⟨h.next, 0, n + 1, blk, rfl, by omega, hn, by rw [a2.floor]; exact hf, by omega, c1, ⟨by omega, by omega⟩, c4, c5, c6, c7⟩, a2.mono fun _ _ h => h.elim, fun id i => ?_, fun _ _ _ _ _ _ e => by cases e; exact ⟨blk, c1, c3⟩⟩
      · show (ifK (Nat.ble (n + 1) 1048576) fun _ => alloc el vs h fun id h => k (.l id 0 0 (n + 1) vs.length none) h) = _
        rw [hble, ifK_true, a1]
      · obtain ⟨_, _, _, _, _, e⟩ := i; cases e; exact .inr (Nat.le_refl _)
  · obtain ⟨next, floor, heap⟩ := h
    obtain ⟨cur, min, sz, cells, bel, fr⟩ := blk
    simp only at b6 b7 b8 b9 b10
    obtain ⟨tr, t1, t2, t3⟩ := setList_fine vs sz cells (by omega)
    obtain ⟨hp, s1, s2, s3⟩ := setK_ok id (⟨Nat.succ cur, min, Nat.add sz (Nat.mul n size), tr, bel, fr⟩ : Blk) heap
    have e1 : Nat.ble min g = true := by rw [Nat.ble_eq]; exact b6.1
    have e2 : B.geB floor id = true := by
      cases floor <;> first | rfl | (show Nat.ble _ _ = true; rw [Nat.ble_eq]; exact b3)
    have e3 : Nat.add 0 (Nat.mul m size) = sz := by
      show 0 + m * size = sz
      omega
    have e3' : Nat.ble sz sz = true := by rw [Nat.ble_eq]; exact Nat.le_refl _
    have e4 : Nat.beq xs.length sz = true := by rw [b7]; simp
    have e4' : Nat.beq sz sz = true := Nat.beq_refl _
    have e9 : capF (Nat.add m n) = none := capF_pos (by show 1 ≤ m + n; omega)
    have e5 : Nat.ble 1 m = true := by rw [Nat.ble_eq]; exact b1
    have hm : m ≤ xs.length := by rw [b2]; exact Nat.le_mul_of_pos_right _ hsz
    have e6 : Nat.ble (Nat.add m n) 1048576 = true := by rw [Nat.ble_eq]; show m + n ≤ 1048576; omega
    have e7 : frOk fr sz = true := by rw [b9]; rfl
    have e8 : Nat.beq bel el = true := by rw [b8]; simp
    refine ⟨.l id (Nat.succ cur) 0 (m + n) (sz + n * size) none, ⟨next, floor, hp⟩, fun k => ?_, .inr ⟨id, Nat.succ cur, m + n, _, ?_, by omega, ?_, b3, b4, s2, ?_, ?_, b8, b9, fun i y hy => ?_⟩, ⟨rfl, Nat.le_refl _, fun id' _ hne => s3 id' fun e => hne (by subst e; exact ⟨_, _, _, _, _, rfl⟩)⟩, fun id' i => ?_, fun _ _ _ _ _ _ e => by cases e; exact ⟨_, s2, rfl⟩⟩
    · show appGrow (Nat.ble 1 m) el id g 0 m xs.length size n vs ⟨next, floor, heap⟩ k = _
      have b5' : heap.get id = some ⟨cur, min, sz, cells, bel, fr⟩ := b5
      simp only [appGrow, hK_mk, b5', optK_some, blkK_mk, fN_eq, e3, e1, e2, e3', e4, e4', selN_t, e5, e6, h1, e7, e8, e9, ifK_true]
      rw [t1, s1]; rfl
    · show V.l id (Nat.succ cur) 0 (m + n) (sz + n * size) none = V.l id (Nat.succ cur) 0 (m + n) (xs ++ vs).length none
      rw [List.length_append, hn, b7]
    · rw [List.length_append, hn, b2, Nat.add_mul]
    · exact ⟨by show min ≤ cur + 1; omega, Nat.le_refl _⟩
    · show Nat.add sz (Nat.mul n size) = (xs ++ vs).length
      rw [List.length_append, hn, b7]; rfl
    · show tr.getN i = some y
      by_cases hi : i < xs.length
      · rw [t3 i (.inl (by omega))]
        refine b10 i y ?_
        rwa [List.getElem?_append_left hi] at hy
      · have hi' : i - xs.length < vs.length := by
          have := (List.getElem?_eq_some_iff.1 hy).1
          simp at this; omega
        rw [List.getElem?_append_right (by omega)] at hy
        have := t2 (i - xs.length) y hy
        rwa [show sz + (i - xs.length) = i by omega] at this
    · obtain ⟨_, _, _, _, _, e⟩ := i; cases e; exact .inl ⟨_, _, _, _, _, rfl⟩
/-- at one place written -/
theorem store_buf {h : H} {el : Nat} {v : V} {xs : List V} {j : Nat} {y : V} (b : Buf h el 1 v xs) (tp : Top h v) (hj : j < xs.length) (hfit : j < 2 ^ 37) (h1 : oneV y = true) :
    ∃ h', (∀ k, store h (lid v) (lg v) (loff v + j) (lfin v) [y] k = k h') ∧ Buf h' el 1 v (xs.set j y) ∧ Top h' v ∧ Stay (isOf v) h h' := by
  rcases b with ⟨rfl, rfl⟩ | ⟨id, g, m, blk, rfl, b1, b2, b3, b4, b5, b6, b7, b8, b9, b10⟩
  · exact absurd hj (Nat.not_lt_zero _)
  obtain ⟨blk', b5', hcur⟩ := tp id g 0 m xs.length none rfl
  have hbb : blk' = blk := by rw [b5] at b5'; exact (Option.some.inj b5').symm
  subst hbb
  obtain ⟨next, floor, heap⟩ := h
  obtain ⟨cur, min, sz, cells, bel, fr⟩ := blk'
  simp only at b6 b7 b8 b9 b10 hcur
  subst hcur; subst b9
  obtain ⟨tr, t1, t2, t3⟩ := setList_fine [y] j cells (by simp; omega)
  obtain ⟨hp, s1, s2, s3⟩ := setK_ok id (⟨cur, cur, sz, tr, bel, 0⟩ : Blk) heap
  have e1 : B.geB floor id = true := by cases floor <;> first | rfl | (show Nat.ble _ _ = true; rw [Nat.ble_eq]; exact b3)
  have e2 : Nat.ble (Nat.add j 1) xs.length = true := by rw [Nat.ble_eq]; exact hj
  have e3 : allOne [y] = true := by show Bool.rec false true (oneV y) = true; rw [h1]
  have e4 : frOk 0 j = true := rfl
  have e5 : Nat.beq cur cur = true := Nat.beq_refl cur
  have e6 : Nat.ble min cur = true := by rw [Nat.ble_eq]; exact b6.1
  have b5'' : heap.get id = some ⟨cur, min, sz, cells, bel, 0⟩ := b5
  refine ⟨⟨next, floor, hp⟩, fun k => ?_, .inr ⟨id, cur, m, _, by rw [List.length_set], b1, by rw [List.length_set]; exact b2, b3, b4, s2, ⟨Nat.le_refl _, Nat.le_refl _⟩, by rw [List.length_set]; exact b7, b8, rfl, fun i z hz => ?_⟩, fun _ _ _ _ _ _ e => by cases e; exact ⟨_, s2, rfl⟩, ⟨rfl, Nat.le_refl _, fun i _ hi => s3 i fun e => hi (by subst e; exact ⟨_, _, _, _, _, rfl⟩)⟩⟩
  · show store ⟨next, floor, heap⟩ id cur (0 + j) xs.length [y] k = _
    rw [Nat.zero_add]
    simp only [store, hK_mk, b5'', optK_some, blkK_mk, List.length_singleton, e5, e6, e1, e2, e3, e4, ifK_true]
    rw [t1, s1]
  · show tr.getN i = some z
    rw [List.getElem?_set] at hz
    split at hz
    · rename_i hij
      subst hij
      first
      | (rw [if_pos hj] at hz; cases hz; exact t2 0 y rfl)
      | (cases hz; exact t2 0 y rfl)
    · rename_i hij
      rw [t3 i (by simp; omega)]
      exact b10 i z hz
section
variable {P : Program} {S : Spec} {l : List CO} {t : F} {h : H} {K : F → H → Prop}
end
noncomputable def slLoV (size : Nat) (v w : V) (k : V → Bool) : Bool := vL v (fun _ => vI w fun _ n => natK n fun a => ifK (Nat.beq a 0) fun _ => ifK (Nat.beq 0 0) fun _ => k .l0) fun id g off len fin cap => vI w fun _ n => natK n fun a => ifK (Nat.ble a len) fun _ =>
  Option.rec (fun id g off len fin a b k => sliceN size id g off len fin a b fun v => k v) (fun c id g off len fin a b k => boolK (flagB c) (fun _ => ifK (Nat.beq b 0) fun _ => k (.l id g off 0 off (some c))) (fun _ => sliceC size id g off len fin c a b fun v => k v)) cap id g off len fin a len k
noncomputable def slHiV (size : Nat) (v w : V) (k : V → Bool) : Bool := vL v (fun _ => vI w fun _ n => natK n fun b => ifK (Nat.beq 0 0) fun _ => ifK (Nat.beq b 0) fun _ => k .l0) fun id g off len fin cap => vI w fun _ n => natK n fun b => ifK (Nat.ble 0 b) fun _ =>
  Option.rec (fun id g off len fin a b k => sliceN size id g off len fin a b fun v => k v) (fun c id g off len fin a b k => boolK (flagB c) (fun _ => ifK (Nat.beq b 0) fun _ => k (.l id g off 0 off (some c))) (fun _ => sliceC size id g off len fin c a b fun v => k v)) cap id g off len fin 0 b k
section
variable {cf : CallF} {t : F} {h : H} {k : V → H → Bool} {x a : O}
theorem ev_slLo (size : Nat) : doSlice size x (some a) none cf t h k = slLoV size (oV x t) (oV a t) fun v => k v h := by
  unfold slLoV
  simp only [doSlice, oE_eq, boundK]
  congr 1
  funext id g off len fin cap
  congr 1; funext _ n; congr 1; funext a; congr 1; funext _
  cases cap with
  | none => rfl
  | some c =>
    show boolK (flagB c) _ _ = boolK (flagB c) _ _
    cases flagB c <;> rfl
theorem ev_slHi (size : Nat) : doSlice size x none (some a) cf t h k = slHiV size (oV x t) (oV a t) fun v => k v h := by
  unfold slHiV
  simp only [doSlice, oE_eq, boundK]
  congr 1
  funext id g off len fin cap
  congr 1; funext _ n; congr 1; funext a; congr 1; funext _
  cases cap with
  | none => rfl
  | some c =>
    show boolK (flagB c) _ _ = boolK (flagB c) _ _
    cases flagB c <;> rfl
end
/-- the part behind n of a row that is made -/
def tailV (id : B) (K n : Nat) : V := if n = K then .l id 0 0 0 K (some 0) else .l id 0 n (K - n) K (some (K - n))
theorem slLo_row {id : B} {K n : Nat} {kd : IntKind} (hKM : K < 18446744073709551616) (hn : n ≤ K) (k : V → Bool) : slLoV 1 (.l id 0 0 K K (some K)) (.i kd (n : Int)) k = k (tailV id K n) := by
  have e1 : Nat.ble n K = true := by rw [Nat.ble_eq]; exact hn
  have e2 : Nat.ble K K = true := by rw [Nat.ble_eq]; exact Nat.le_refl _
  unfold slLoV tailV
  simp only [vL_l, vI_i, natK_cast, e1, ifK_true]
  by_cases e : n = K
  · subst e
    rw [if_pos rfl]
    show boolK (flagB n) _ (fun _ => sliceC 1 id 0 0 n n n n n fun v => k v) = _
    rw [flagB_of hKM, boolK_false]
    have e0 : Nat.ble (Nat.succ n) 18446744073709551616 = true := by rw [Nat.ble_eq]; exact hKM
    have e3 : Nat.beq n n = true := Nat.beq_refl n
    unfold sliceC
    rw [e0, ifK_true, e2, ifK_true, e3]
    rfl
  · rw [if_neg e]
    show boolK (flagB K) _ (fun _ => sliceC 1 id 0 0 K K K n K fun v => k v) = _
    rw [flagB_of hKM, boolK_false, sliceC_mid hKM (Nat.le_refl _) (by omega), Nat.zero_add, Nat.mul_one]
theorem slHi_row {id : B} {K n : Nat} {kd : IntKind} (hKM : K < 18446744073709551616) (hn : n ≤ K) (hK : 0 < K) (k : V → Bool) : slHiV 1 (.l id 0 0 K K (some K)) (.i kd (n : Int)) k = k (.l id 0 0 n K (some K)) := by
  have e1 : Nat.ble 0 n = true := by rw [Nat.ble_eq]; exact Nat.zero_le _
  unfold slHiV
  simp only [vL_l, vI_i, natK_cast, e1, ifK_true]
  show boolK (flagB K) _ (fun _ => sliceC 1 id 0 0 K K K 0 n fun v => k v) = _
  rw [flagB_of hKM, boolK_false, sliceC_mid hKM hn hK]
  simp only [Nat.zero_mul, Nat.add_zero, Nat.sub_zero]
end Go.Ev

set_option linter.all false
namespace Go.Ev
open Go
/-- frames -/
noncomputable def gpJunk (n m : Nat) (v : V) (t : F) : V := get n (put m v t)
theorem get_put' (n m : Nat) (v : V) (t : F) : get n (put m v t) = if n = m then v else if n < 512 ∧ m < 512 then get n t else gpJunk n m v t := by
  by_cases h : n < 512 ∧ m < 512
  · rw [get_put n m v t h.1 h.2, if_pos h]
  · rw [if_neg h]
    by_cases e : n = m
    · subst e
      rw [if_pos rfl]
      exact (Classical.choose_spec (sPut_ok (slOf n) v t)).2.1
    · rw [if_neg e]; rfl
section
variable {P : Program} {h : H} {N : Nx} {kd : IntKind} {a b : Int}
theorem h2_add : H2 P (gBin fAdd) (.i kd a) (.i kd b) h N = N.go P (.i kd (kd.wrap (a + b))) h := hv_of fun k => by show ifK (kdEq kd kd) _ = _; rw [kdEq_self, ifK_true, f_add]
theorem h2_sub : H2 P (gBin fSub) (.i kd a) (.i kd b) h N = N.go P (.i kd (kd.wrap (a - b))) h := hv_of fun k => by show ifK (kdEq kd kd) _ = _; rw [kdEq_self, ifK_true, f_sub]
theorem h2_mul : H2 P (gBin fMul) (.i kd a) (.i kd b) h N = N.go P (.i kd (kd.wrap (a * b))) h := hv_of fun k => by show ifK (kdEq kd kd) _ = _; rw [kdEq_self, ifK_true, f_mul]
theorem h2_lss : H2 P (gBin fLss) (.i kd a) (.i kd b) h N = N.go P (.b (decide (a < b))) h := hv_of fun k => by show ifK (kdEq kd kd) _ = _; rw [kdEq_self, ifK_true, f_lss]
theorem h2_gtr : H2 P (gBin fGtr) (.i kd a) (.i kd b) h N = N.go P (.b (decide (b < a))) h := hv_of fun k => by show ifK (kdEq kd kd) _ = _; rw [kdEq_self, ifK_true, f_gtr]
theorem h2_leq : H2 P (gBin fLeq) (.i kd a) (.i kd b) h N = N.go P (.b (decide (a ≤ b))) h := hv_of fun k => by show ifK (kdEq kd kd) _ = _; rw [kdEq_self, ifK_true, f_leq]
theorem h2_geq : H2 P (gBin fGeq) (.i kd a) (.i kd b) h N = N.go P (.b (decide (b ≤ a))) h := hv_of fun k => by show ifK (kdEq kd kd) _ = _; rw [kdEq_self, ifK_true, f_geq]
theorem h2_eql : H2 P (gBin fEql) (.i kd a) (.i kd b) h N = N.go P (.b (decide (a = b))) h := hv_of fun k => by show ifK (kdEq kd kd) _ = _; rw [kdEq_self, ifK_true, f_eql]
theorem h2_neq : H2 P (gBin fNeq) (.i kd a) (.i kd b) h N = N.go P (.b (!decide (a = b))) h := hv_of fun k => by show ifK (kdEq kd kd) _ = _; rw [kdEq_self, ifK_true, f_neq]
theorem h2_quo (ha : 0 ≤ a) (hb : 0 < b) : H2 P (gBin fQuo) (.i kd a) (.i kd b) h N = N.go P (.i kd (kd.wrap (a / b))) h := hv_of fun k => by
  show ifK (kdEq kd kd) _ = _
  rw [kdEq_self, ifK_true]
  have e : eqI b 0 = false := by rw [eqI_eq]; simp; omega
  unfold fQuo
  rw [e]
  show wrapF (Int.tdiv a b) kd (mxOf kd) k = _
  rw [wrapF_eq, Int.tdiv_eq_ediv_of_nonneg ha]
theorem h2_rem (ha : 0 ≤ a) (hb : 0 < b) : H2 P gRem (.i kd a) (.i kd b) h N = N.go P (.i kd (a % b)) h := hv_of fun k => by
  show ifK (kdEq kd kd) (fun _ => fRem kd a b k) = _
  rw [kdEq_self, ifK_true]
  have e : eqI b 0 = false := by rw [eqI_eq]; simp; omega
  unfold fRem
  rw [e]
  show forceI (Int.tmod a b) (fun n => k (.i kd n)) = _
  rw [forceI_eq, Int.tmod_eq_emod_of_nonneg ha]
theorem h2_and {m : Nat} (hm : mxOf kd = m) (ha : 0 ≤ a) (ha2 : a ≤ m) (hb : 0 ≤ b) (hb2 : b ≤ m) : H2 P (gBin fAnd) (.i kd a) (.i kd b) h N = N.go P (.i kd ((a.toNat &&& b.toNat : Nat) : Int)) h := hv_of fun k => by
  show ifK (kdEq kd kd) _ = _
  rw [kdEq_self, ifK_true]
  obtain ⟨x, rfl⟩ := Int.eq_ofNat_of_zero_le ha
  obtain ⟨y, rfl⟩ := Int.eq_ofNat_of_zero_le hb
  have e1 : Nat.ble x (mxOf kd) = true := by rw [Nat.ble_eq]; omega
  have e2 : Nat.ble y (mxOf kd) = true := by rw [Nat.ble_eq]; omega
  show natK (Int.ofNat x) (fun a => natK (Int.ofNat y) _) = _
  rw [natK_ofNat, natK_ofNat, e1, ifK_true, e2, ifK_true, fN_eq]; rfl
theorem h2_or {m : Nat} (hm : mxOf kd = m) (ha : 0 ≤ a) (ha2 : a ≤ m) (hb : 0 ≤ b) (hb2 : b ≤ m) : H2 P (gBin fOr) (.i kd a) (.i kd b) h N = N.go P (.i kd ((a.toNat ||| b.toNat : Nat) : Int)) h := hv_of fun k => by
  show ifK (kdEq kd kd) _ = _
  rw [kdEq_self, ifK_true]
  obtain ⟨x, rfl⟩ := Int.eq_ofNat_of_zero_le ha
  obtain ⟨y, rfl⟩ := Int.eq_ofNat_of_zero_le hb
  have e1 : Nat.ble x (mxOf kd) = true := by rw [Nat.ble_eq]; omega
  have e2 : Nat.ble y (mxOf kd) = true := by rw [Nat.ble_eq]; omega
  show natK (Int.ofNat x) (fun a => natK (Int.ofNat y) _) = _
  rw [natK_ofNat, natK_ofNat, e1, ifK_true, e2, ifK_true, fN_eq]; rfl
theorem h2_xor {m : Nat} (hm : mxOf kd = m) (ha : 0 ≤ a) (ha2 : a ≤ m) (hb : 0 ≤ b) (hb2 : b ≤ m) : H2 P (gBin fXor) (.i kd a) (.i kd b) h N = N.go P (.i kd ((a.toNat ^^^ b.toNat : Nat) : Int)) h := hv_of fun k => by
  show ifK (kdEq kd kd) _ = _
  rw [kdEq_self, ifK_true]
  obtain ⟨x, rfl⟩ := Int.eq_ofNat_of_zero_le ha
  obtain ⟨y, rfl⟩ := Int.eq_ofNat_of_zero_le hb
  have e1 : Nat.ble x (mxOf kd) = true := by rw [Nat.ble_eq]; omega
  have e2 : Nat.ble y (mxOf kd) = true := by rw [Nat.ble_eq]; omega
  show natK (Int.ofNat x) (fun a => natK (Int.ofNat y) _) = _
  rw [natK_ofNat, natK_ofNat, e1, ifK_true, e2, ifK_true, fN_eq]; rfl
theorem h2_ant {m : Nat} (hm : mxOf kd = m) (ha : 0 ≤ a) (ha2 : a ≤ m) (hb : 0 ≤ b) (hb2 : b ≤ m) : H2 P (gBin fAnt) (.i kd a) (.i kd b) h N = N.go P (.i kd ((a.toNat ^^^ (a.toNat &&& b.toNat) : Nat) : Int)) h := hv_of fun k => by
  show ifK (kdEq kd kd) _ = _
  rw [kdEq_self, ifK_true]
  obtain ⟨x, rfl⟩ := Int.eq_ofNat_of_zero_le ha
  obtain ⟨y, rfl⟩ := Int.eq_ofNat_of_zero_le hb
  have e1 : Nat.ble x (mxOf kd) = true := by rw [Nat.ble_eq]; omega
  have e2 : Nat.ble y (mxOf kd) = true := by rw [Nat.ble_eq]; omega
  show natK (Int.ofNat x) (fun a => natK (Int.ofNat y) _) = _
  rw [natK_ofNat, natK_ofNat, e1, ifK_true, e2, ifK_true, fN_eq]; rfl
theorem h2_shl {kd' : IntKind} (hb : 0 ≤ b) : H2 P (gShift shlF) (.i kd a) (.i kd' b) h N = N.go P (.i kd (kd.wrap (a * ((2 ^ (min b.toNat kd.bits) : Nat) : Int)))) h := hv_of fun k => by
  show natK b _ = _
  rw [natK_nn hb, f_shl]
theorem h2_shr {kd' : IntKind} (hb : 0 ≤ b) : H2 P (gShift shrF) (.i kd a) (.i kd' b) h N = N.go P (.i kd (a / ((2 ^ (min b.toNat kd.bits) : Nat) : Int))) h := hv_of fun k => by
  show natK b _ = _
  rw [natK_nn hb]
  show forceI (Int.fdiv a ((2 ^ _ : Nat) : Int)) (fun n => k (.i kd n)) = _
  rw [forceI_eq, Int.fdiv_eq_ediv_of_nonneg _ (Int.natCast_nonneg _)]
theorem h2_beq {x y : Bool} : H2 P (gBool false) (.b x) (.b y) h N = N.go P (.b (x == y)) h := hv_of fun k => by cases x <;> cases y <;> rfl
theorem h2_bne {x y : Bool} : H2 P (gBool true) (.b x) (.b y) h N = N.go P (.b (x != y)) h := hv_of fun k => by cases x <;> cases y <;> rfl
theorem h1_not {x : Bool} : H1 P gNot (.b x) h N = N.go P (.b (!x)) h := hv_of fun k => rfl
theorem h1_neg : H1 P gNeg (.i kd a) h N = N.go P (.i kd (kd.wrap (-a))) h := hv_of fun k => wrapF_eq _ _ _
theorem h1_conv {kd' : IntKind} : H1 P (gConv kd) (.i kd' a) h N = N.go P (.i kd (kd.wrap a)) h := hv_of fun k => rfl
theorem h1_ext0 {v : V} {vs : List V} : H1 P (gExt 0) (.tu (v :: vs)) h N = N.go P v h := hv_of fun k => rfl
theorem h1_ext1 {u v : V} {vs : List V} : H1 P (gExt 1) (.tu (u :: v :: vs)) h N = N.go P v h := hv_of fun k => rfl
theorem h1_ext2 {u w v : V} {vs : List V} : H1 P (gExt 2) (.tu (u :: w :: v :: vs)) h N = N.go P v h := hv_of fun k => rfl
theorem h1_ext3 {u w z v : V} {vs : List V} : H1 P (gExt 3) (.tu (u :: w :: z :: v :: vs)) h N = N.go P v h := hv_of fun k => rfl
theorem h2_min : H2 P gMin (.i kd a) (.i kd b) h N = N.go P (.i kd (min a b)) h := hv_of fun k => by show ifK (kdEq kd kd) _ = _; rw [kdEq_self, ifK_true]
theorem h2_max : H2 P gMax (.i kd a) (.i kd b) h N = N.go P (.i kd (max a b)) h := hv_of fun k => by show ifK (kdEq kd kd) _ = _; rw [kdEq_self, ifK_true]
theorem h3_pick {q : Bool} {x y : V} : H3 P gPick (.b q) x y h N = N.go P (cond q x y) h := hv_of fun k => rfl
def FDJ (P : Program) (d : Nat) (cs : List V) (h : H) (N : Nx) : Prop := H1 P (gField d) (.a cs) h N
theorem h1_field {d : Nat} {cs : List V} : H1 P (gField d) (.a cs) h N = if d < cs.length then N.go P (cs.getD d .u) h else FDJ P d cs h N := by
  split
  · rename_i hd
    exact hv_of fun k => by
      show optK (cs[d]?) k = _
      rw [show cs[d]? = some (cs.getD d .u) by simp [hd]]; rfl
  · rfl
theorem h1_fieldA {d size : Nat} {cs : List V} : H1 P (gFieldA d size) (.a cs) h N = N.go P (.a ((cs.drop d).take size)) h := hv_of fun k => rfl
theorem h1_fieldAddr {d : Nat} {id : B} {g off fin : Nat} : H1 P (gFieldAddr d) (.p id g off fin) h N = N.go P (.p id g (off + d) fin) h := hv_of fun k => rfl
theorem h1_nilCheck {id : B} {g off fin : Nat} : H1 P gNilCheck (.p id g off fin) h N = N.go P (.p id g off fin) h := hv_of fun k => rfl
/-- an element's place -/
def IX (P : Program) (size : Nat) (v : V) (i : Nat) (h : H) (N : Nx) : Prop := HV P (idxV size v i) h N
theorem h2_idx {size : Nat} {v : V} (ha : 0 ≤ a) : H2 P (gIndex size) v (.i kd a) h N = IX P size v a.toNat h N := by
  unfold H2 IX
  congr 1
  funext k
  show natK a _ = _
  rw [natK_nn ha]
theorem ix_l {size i : Nat} {id : B} {g off len fin : Nat} {cap : Option Nat} (hi : i < len) : IX P size (.l id g off len fin cap) i h N = N.go P (.p id g (off + i * size) fin) h := hv_of fun k => by
  show ifK (Nat.ble (i + 1) len) (fun _ => k (.p id g (off + i * size) fin)) = _
  have : Nat.ble (i + 1) len = true := by rw [Nat.ble_eq]; exact hi
  rw [this, ifK_true]
theorem h2_idxArr {len size : Nat} {id : B} {g off fin : Nat} (ha : 0 ≤ a) (hl : a < len) : H2 P (gIndexArr len size) (.p id g off fin) (.i kd a) h N = N.go P (.p id g (off + a.toNat * size) fin) h := hv_of fun k => by
  show natK a _ = _
  rw [natK_nn ha, arrIx (by omega)]
theorem gLen_l0 : H1 P gLen .l0 h N = N.go P (.i .i64 0) h := hv_of fun k => rfl
theorem gLen_l {id : B} {g off len fin : Nat} {cap : Option Nat} : H1 P gLen (.l id g off len fin cap) h N = N.go P (.i .i64 (len : Int)) h := hv_of fun k => rfl
theorem h1_lenS {l : List UInt8} : H1 P gLenS (sv l) h N = N.go P (.i .i64 (l.length : Int)) h := hv_of fun k => rfl
theorem h2_sindex {l : List UInt8} (ha : 0 ≤ a) (hl : a < l.length) : H2 P gSIndex (sv l) (.i kd a) h N = N.go P (.i .u8 ((l.getD a.toNat 0).toNat : Int)) h := hv_of fun k => by
  show natK a _ = _
  rw [natK_nn ha, sixV_sv (by omega)]
theorem h2_aindex {len size : Nat} {cs : List V} (ha : 0 ≤ a) (hl : a < len) (hc : a.toNat * size < cs.length) : H2 P (gAIndex len size) (.a cs) (.i kd a) h N = N.go P (cs.getD (a.toNat * size) .u) h := hv_of fun k => by
  show natK a _ = _
  have : Nat.ble (a.toNat + 1) len = true := by rw [Nat.ble_eq]; omega
  rw [natK_nn ha]
  show ifK (Nat.ble (a.toNat + 1) len) (fun _ => optK (cs[a.toNat * size]?) k) = _
  rw [this, ifK_true, show cs[a.toNat * size]? = some (cs.getD (a.toNat * size) .u) by simp [hc]]; rfl
theorem h2_cat {x y : List UInt8} (hl : x.length + y.length ≤ 1048576) : H2 P catV (sv x) (sv y) h N = N.go P (sv (x ++ y)) h := hv_of fun k => catV_sv hl k
theorem h2_seq {x y : List UInt8} : H2 P (scV eqS) (sv x) (sv y) h N = N.go P (.b (decide (x = y))) h := hv_of fun k => scV_eq x y k
theorem h2_sne {x y : List UInt8} : H2 P (scV fun a b c d => !eqS a b c d) (sv x) (sv y) h N = N.go P (.b (!decide (x = y))) h := hv_of fun k => scV_ne x y k
theorem h2_cmpS {x y : List UInt8} : H2 P cmV (sv x) (sv y) h N = N.go P (.i .i64 (cmpI (decide (x = y)) (Op.bytesLess x y))) h := hv_of fun k => cmV_sv x y k
theorem h2_slt {x y : List UInt8} : H2 P (scV ltS) (sv x) (sv y) h N = N.go P (.b (Op.bytesLess x y)) h := hv_of fun k => scV_lt x y k
theorem h2_sge {x y : List UInt8} : H2 P (scV fun a b c d => !ltS a b c d) (sv x) (sv y) h N = N.go P (.b (!Op.bytesLess x y)) h := hv_of fun k => by
  unfold scV; rw [vS_sv, vS_sv, bytesLess_pk]
theorem h2_sle {x y : List UInt8} : H2 P (scV fun a b c d => ltS a b c d || eqS a b c d) (sv x) (sv y) h N = N.go P (.b (Op.bytesLess x y || decide (x = y))) h := hv_of fun k => by
  unfold scV; rw [vS_sv, vS_sv]; show k (.b (ltS x.length (pk x) y.length (pk y) || eqS x.length (pk x) y.length (pk y))) = _; rw [eqS_sv, bytesLess_pk]
theorem h2_sgt {x y : List UInt8} : H2 P (scV fun a b c d => !(ltS a b c d || eqS a b c d)) (sv x) (sv y) h N = N.go P (.b (!(Op.bytesLess x y || decide (x = y)))) h := hv_of fun k => by
  unfold scV; rw [vS_sv, vS_sv]; show k (.b (!(ltS x.length (pk x) y.length (pk y) || eqS x.length (pk x) y.length (pk y)))) = _; rw [eqS_sv, bytesLess_pk]
theorem h3_ss2 {l : List UInt8} {kd' : IntKind} (ha : 0 ≤ a) (hab : a ≤ b) (hb : b ≤ l.length) : H3 P gSS2 (sv l) (.i kd a) (.i kd' b) h N = N.go P (sv ((l.take b.toNat).drop a.toNat)) h := hv_of fun k => by
  show natK a (fun p => natK b fun q => ssV (sv l) p q k) = _
  rw [natK_nn ha, natK_nn (by omega), ssV_sv (by omega) (by omega)]
theorem h2_ss1 {l : List UInt8} (ha : 0 ≤ a) (hb : a ≤ l.length) : H2 P gSS1 (sv l) (.i kd a) h N = N.go P (sv (l.take a.toNat)) h := hv_of fun k => by
  show natK a (fun q => ssV (sv l) 0 q k) = _
  rw [natK_nn ha, ssV_sv (by omega) (by omega), List.drop_zero]
theorem h2_ssa {l : List UInt8} (ha : 0 ≤ a) (hb : a ≤ l.length) : H2 P gSSa (sv l) (.i kd a) h N = N.go P (sv (l.drop a.toNat)) h := hv_of fun k => by
  show natK a (fun p => ssaV (sv l) p k) = _
  rw [natK_nn ha, ssaV_sv (by omega)]
theorem h1_moveS {l : List UInt8} : H1 P gMoveS (sv l) h N = N.go P (sv l) h := hv_of fun k => rfl
theorem h2_nilL0 {ne : Bool} : H2 P (gNil vLN ne) .l0 .l0 h N = N.go P (.b (!ne)) h := hv_of fun k => by cases ne <;> rfl
theorem h2_nilL1 {ne : Bool} {id : B} {g off len fin : Nat} {cap : Option Nat} : H2 P (gNil vLN ne) (.l id g off len fin cap) .l0 h N = N.go P (.b ne) h := hv_of fun k => by cases ne <;> rfl
theorem h2_nilP0 {ne : Bool} : H2 P (gNil vPN ne) .p0 .p0 h N = N.go P (.b (!ne)) h := hv_of fun k => by cases ne <;> rfl
theorem h2_nilP1 {ne : Bool} {id : B} {g off fin : Nat} : H2 P (gNil vPN ne) (.p id g off fin) .p0 h N = N.go P (.b ne) h := hv_of fun k => by cases ne <;> rfl
end
noncomputable def gI2S (x : V) (k : V → Bool) : Bool := vI x fun _ n => natK n fun n => ifK (Nat.ble n 127) fun _ => k (.s 1 n)
theorem or_i2s {P : Program} {t : F} {h : H} {N : Nx} (x : O) : OR P (doI2S x) t h N = H1 P gI2S (oV x t) h N := or_hv fun cf k => by simp only [doI2S, oE_eq]; rfl
theorem sv_one {k : Nat} (h : k < 256) : V.s 1 k = sv [UInt8.ofNat k] := by
  unfold sv
  have : (UInt8.ofNat k).toNat = k := by simp; omega
  simp [pk, this]
theorem h1_i2s {P : Program} {h : H} {N : Nx} {kd : IntKind} {a : Int} (ha : 0 ≤ a) (hb : a ≤ 127) : H1 P gI2S (.i kd a) h N = N.go P (sv [UInt8.ofNat a.toNat]) h := hv_of fun k => by
  show natK a _ = _
  have e : Nat.ble a.toNat 127 = true := by rw [Nat.ble_eq]; omega
  rw [natK_nn ha, e, ifK_true, sv_one (by omega)]
def LD (P : Program) (v : V) (h : H) (N : Nx) : Prop := HV P (fun k => vP v fun id g off fin => load1 h id g off fin k) h N
def LA (P : Program) (size : Nat) (v : V) (h : H) (N : Nx) : Prop := HV P (fun k => vP v fun id g off fin => loadN h id g off fin size fun vs => k (.a vs)) h N
def L1 (P : Program) (id : B) (g off fin : Nat) (h : H) (N : Nx) : Prop := HV P (load1 h id g off fin) h N
def LN (P : Program) (id : B) (g off fin size : Nat) (h : H) (N : Nx) : Prop := HV P (fun k => loadN h id g off fin size fun vs => k (.a vs)) h N
def BS (P : Program) (v : V) (h : H) (N : Nx) : Prop := HV P (b2sV h v) h N
section
variable {P : Program} {t : F} {h : H} {N : Nx} {o x : O} {id : B} {g off fin size : Nat}
theorem or_load : OR P (doLoad o) t h N = LD P (oV o t) h N := or_hv fun cf k => ev_load ..
theorem or_loadA : OR P (doLoadA size o) t h N = LA P size (oV o t) h N := or_hv fun cf k => ev_loadA ..
theorem or_b2s : OR P (doB2S x) t h N = BS P (oV x t) h N := or_hv fun cf k => ev_b2s ..
theorem ld_p : LD P (.p id g off fin) h N = L1 P id g off fin h N := rfl
theorem la_p : LA P size (.p id g off fin) h N = LN P id g off fin size h N := rfl
theorem loadRe {h : H} (k : V → Bool) : load1 (reFloor h) id g off fin k = load1 h id g off fin k := by cases h; rfl
section
variable {n : Nat} {l : List CO} {K : F → H → Prop} {v : V}
theorem l1_re : L1 P id g off fin (reFloor h) (.u n l t h K) = L1 P id g off fin h (.d n l t K) := by
  unfold L1 HV
  simp only [loadRe, go_u, go_d, unFloor_re]
theorem ln_re : LN P id g off fin size (reFloor h) (.u n l t h K) = LN P id g off fin size h (.d n l t K) := by
  have e : ∀ k : List V → Bool, loadN (reFloor h) id g off fin size k = loadN h id g off fin size k := fun k => by cases h; rfl
  unfold LN HV
  simp only [e, go_u, go_d, unFloor_re]
theorem bs_re : BS P v (reFloor h) (.u n l t h K) = BS P v h (.d n l t K) := by
  have e : b2sV (reFloor h) v = b2sV h v := by cases h; rfl
  unfold BS HV
  simp only [e, go_u, go_d, unFloor_re]
end
theorem Row.l1 {xs : List V} (r : Row h id g 0 xs) (hi : off < xs.length) (hf : off < fin) : L1 P id g off fin h N = N.go P (xs.getD off .u) h := hv_of fun k =>
  load1_cell (by have := r.2 off (xs.getD off .u) (by simp [hi]); rwa [Nat.zero_add] at this) hf k
theorem Lst.ln {h0 : H} {v : V} {xs : List V} (a : Lst h0 v xs) : H1 P gLen v h N = N.go P (.i .i64 (xs.length : Int)) h := hv_of fun k => by unfold gLen; rw [a.len]
theorem Lst.ix {h0 : H} {v : V} {xs : List V} {i : Nat} (a : Lst h0 v xs) (hi : i < xs.length) : IX P 1 v i h N = N.go P (.p (lid v) (lg v) (loff v + i) (lfin v)) h := hv_of fun k => a.idx hi k
theorem Lst.ld {v : V} {xs : List V} {i : Nat} (a : Lst h v xs) (hi : i < xs.length) : L1 P (lid v) (lg v) (loff v + i) (lfin v) h N = N.go P (xs.getD i .u) h := hv_of fun k => load_lst a (by simp [hi]) k
theorem Il.ln {h0 : H} {v : V} {xs : List Int} (a : Il h0 v xs) : H1 P gLen v h N = N.go P (.i .i64 (xs.length : Int)) h := by rw [Lst.ln a, List.length_map]
theorem Il.ix {h0 : H} {v : V} {xs : List Int} {i : Nat} (a : Il h0 v xs) (hi : i < xs.length) : IX P 1 v i h N = N.go P (.p (lid v) (lg v) (loff v + i) (lfin v)) h := hv_of fun k => a.idx hi k
theorem Il.ld {v : V} {xs : List Int} {i : Nat} (a : Il h v xs) (hi : i < xs.length) : L1 P (lid v) (lg v) (loff v + i) (lfin v) h N = N.go P (.i .i64 (xs.getD i 0)) h := hv_of fun k => a.rd hi k
theorem Bl.ln {h0 : H} {v : V} {xs : List Bool} (a : Bl h0 v xs) : H1 P gLen v h N = N.go P (.i .i64 (xs.length : Int)) h := by rw [Lst.ln a, List.length_map]
theorem Bl.ix {h0 : H} {v : V} {xs : List Bool} {i : Nat} (a : Bl h0 v xs) (hi : i < xs.length) : IX P 1 v i h N = N.go P (.p (lid v) (lg v) (loff v + i) (lfin v)) h := hv_of fun k => a.idx hi k
theorem Bl.ld {v : V} {xs : List Bool} {i : Nat} (a : Bl h v xs) (hi : i < xs.length) : L1 P (lid v) (lg v) (loff v + i) (lfin v) h N = N.go P (.b (xs.getD i false)) h := hv_of fun k => a.rd hi k
/-- a slice of texts -/
def Tl (h : H) (v : V) (xs : List (List UInt8)) : Prop := Lst h v (xs.map sv)
theorem Tl.grow {h h' : H} {v : V} {xs : List (List UInt8)} (a : Tl h v xs) (s : Stay nowhere h h') : Tl h' v xs := Lst.grow a s
theorem Tl.ln {h0 : H} {v : V} {xs : List (List UInt8)} (a : Tl h0 v xs) : H1 P gLen v h N = N.go P (.i .i64 (xs.length : Int)) h := by rw [Lst.ln a, List.length_map]
theorem Tl.ix {h0 : H} {v : V} {xs : List (List UInt8)} {i : Nat} (a : Tl h0 v xs) (hi : i < xs.length) : IX P 1 v i h N = N.go P (.p (lid v) (lg v) (loff v + i) (lfin v)) h := Lst.ix a (by simpa using hi)
theorem Tl.ld {v : V} {xs : List (List UInt8)} {i : Nat} (a : Tl h v xs) (hi : i < xs.length) : L1 P (lid v) (lg v) (loff v + i) (lfin v) h N = N.go P (sv (xs.getD i [])) h := hv_of fun k => load_lst a (by simp [hi]) k
theorem Lst.bs {v : V} {l : List UInt8} (a : Lst h v (l.map bv)) (hne : l ≠ []) : BS P v h N = N.go P (sv l) h := hv_of fun k => b2s_lst a hne k
end
noncomputable def gSEq (ks : List KD) (ne : Bool) (x y : V) (k : V → Bool) : Bool := vA x fun xs => vA y fun ys => eqL ks xs ys fun r => k (.b (xor ne r))
section
variable {P : Program} {t : F} {h : H} {N : Nx} {ks : List KD} {ne : Bool} {kd : IntKind}
theorem or_sEq {x y : O} : OR P (doSEq ks ne x y) t h N = H2 P (gSEq ks ne) (oV x t) (oV y t) h N := or_hv fun cf k => by simp only [doSEq, oE_eq, fB_eq]; rfl
theorem eqL_s {a b : List UInt8} {xs ys : List V} {k : Bool → Bool} : eqL (.s :: ks) (sv a :: xs) (sv b :: ys) k = if a = b then eqL ks xs ys k else k false := by
  show boolK (eqS a.length (pk a) b.length (pk b)) (fun _ => (fun r => boolK r (fun _ => eqL ks xs ys k) (fun _ => k false)) true) (fun _ => (fun r => boolK r (fun _ => eqL ks xs ys k) (fun _ => k false)) false) = _
  rw [eqS_sv]
  by_cases e : a = b
  · rw [if_pos e, decide_eq_true e]; rfl
  · rw [if_neg e, decide_eq_false e]; rfl
theorem eqL_i {a b : Int} {xs ys : List V} {k : Bool → Bool} : eqL (.i :: ks) (.i kd a :: xs) (.i kd b :: ys) k = if a = b then eqL ks xs ys k else k false := by
  show ifK (kdEq kd kd) (fun _ => boolK (eqI a b) (fun _ => (fun r => boolK r (fun _ => eqL ks xs ys k) (fun _ => k false)) true) (fun _ => (fun r => boolK r (fun _ => eqL ks xs ys k) (fun _ => k false)) false)) = _
  rw [kdEq_self, ifK_true, eqI_eq]
  by_cases e : a = b
  · rw [if_pos e, show (a == b) = true by simpa using e]; rfl
  · rw [if_neg e, show (a == b) = false by simpa using e]; rfl
theorem eqL_b {a b : Bool} {xs ys : List V} {k : Bool → Bool} : eqL (.b :: ks) (.b a :: xs) (.b b :: ys) k = if a = b then eqL ks xs ys k else k false := by
  cases a <;> cases b <;> rfl
theorem eqL_n {xs ys : List V} {k : Bool → Bool} : eqL [] xs ys k = k true := rfl
/-- an entry -/
theorem h2_sE {a b v w : List UInt8} {n m : Int} {d e : Bool} : H2 P (gSEq [.s, .i, .b, .s] ne) (.a [sv a, .i kd n, .b d, sv v]) (.a [sv b, .i kd m, .b e, sv w]) h N = N.go P (.b (xor ne (decide (a = b ∧ n = m ∧ d = e ∧ v = w)))) h := hv_of fun k => by
  unfold gSEq; rw [vA_a, vA_a]
  rw [eqL_s, eqL_i, eqL_b, eqL_s, eqL_n]
  by_cases h1 : a = b <;> by_cases h2 : n = m <;> by_cases h3 : d = e <;> by_cases h4 : v = w <;> simp [h1, h2, h3, h4]
/-- a write -/
theorem h2_sW {a b v w : List UInt8} {d e : Bool} : H2 P (gSEq [.s, .b, .s] ne) (.a [sv a, .b d, sv v]) (.a [sv b, .b e, sv w]) h N = N.go P (.b (xor ne (decide (a = b ∧ d = e ∧ v = w)))) h := hv_of fun k => by
  unfold gSEq; rw [vA_a, vA_a]
  rw [eqL_s, eqL_b, eqL_s, eqL_n]
  by_cases h1 : a = b <;> by_cases h3 : d = e <;> by_cases h4 : v = w <;> simp [h1, h3, h4]
/-- a pair -/
theorem h2_sP {a b v w : List UInt8} : H2 P (gSEq [.s, .s] ne) (.a [sv a, sv v]) (.a [sv b, sv w]) h N = N.go P (.b (xor ne (decide (a = b ∧ v = w)))) h := hv_of fun k => by
  unfold gSEq; rw [vA_a, vA_a]
  rw [eqL_s, eqL_s, eqL_n]
  by_cases h1 : a = b <;> by_cases h4 : v = w <;> simp [h1, h4]
end
/-- what comes with another memory -/
def HM (P : Program) (g : (V → H → Bool) → Bool) (N : Nx) : Prop := ∃ v h', (∀ k, g k = k v h') ∧ N.go P v h'
theorem or_hm {P : Program} {r : Run} {t : F} {h : H} {N : Nx} {g : (V → H → Bool) → Bool} (e : ∀ cf k, r cf t h k = g k) : OR P r t h N = HM P g N :=
  propext ⟨fun ⟨v, h', ⟨cf, _, c2⟩, k⟩ => ⟨v, h', fun k => (e cf k).symm.trans (c2 k), k⟩, fun ⟨v, h', c, k⟩ => ⟨v, h', ⟨_, cfSome P, fun k => (e _ k).trans (c k)⟩, k⟩⟩
theorem hm_of {P : Program} {g : (V → H → Bool) → Bool} {N : Nx} {v : V} {h' : H} (e : ∀ k, g k = k v h') (k : N.go P v h') : HM P g N := ⟨v, h', e, k⟩
/-- a new block of these cells; 'mk' of its name is what comes -/
def AL (P : Program) (el : Nat) (cs : List V) (mk : B → V) (h : H) (N : Nx) : Prop := HM P (fun k => alloc el cs h fun id h' => k (mk id) h') N
theorem AL.own {P : Program} {el : Nat} {cs : List V} {mk : B → V} {h : H} {N : Nx} (hl : cs.length < 2 ^ 37) (hf : B.val h.floor ≤ B.val h.next)
    (k : ∀ h', Stay nowhere h h' → B.val h'.next = B.val h.next + 1 → Own h' h.next cs → N.go P (mk h.next) h') : AL P el cs mk h N := by
  obtain ⟨h', a1, a2, a3, a4⟩ := alloc_own el cs h hl hf
  exact hm_of (fun k => a1 _) (k h' a2 a4 a3)
theorem AL.ownE {P : Program} {el : Nat} {cs : List V} {mk : B → V} {h : H} {N : Nx} (hl : cs.length < 2 ^ 37) (hf : B.val h.floor ≤ B.val h.next)
    (k : ∀ h', Stay nowhere h h' → B.val h'.next = B.val h.next + 1 → OwnE h' h.next el cs → N.go P (mk h.next) h') : AL P el cs mk h N := by
  obtain ⟨h', a1, a2, a3, blk, b1, b2, b3, b4, b5, b6, b7⟩ := alloc_new el cs h (by omega)
  exact hm_of (fun k => a1 _) (k h' a2 a3 ⟨blk, b1, b3, b2, b6, b5, by rw [a2.floor]; exact hf, by omega, b7⟩)
/-- a list of cells, filled: then 'f' of them -/
def FL (P : Program) (ps : List Pt) (t : F) (cs : List V) (el : Option (Nat × Nat)) (h : H) (N : Nx) : Prop := match el with
  | none => HM P (fun k => fillL ps t cs fun ds => k (.a ds) h) N
  | some (el, len) => HM P (fun k => fillL ps t cs fun ds => alloc el ds h fun id h' => k (.l id 0 0 len ds.length (some len)) h') N
def FP (P : Program) (off size : Nat) (v : V) (ps : List Pt) (t : F) (cs : List V) (el : Option (Nat × Nat)) (h : H) (N : Nx) : Prop := match el with
  | none => HM P (fun k => fillP off size (fillL ps) t cs (fun ds => k (.a ds) h) v) N
  | some (el, len) => HM P (fun k => fillP off size (fillL ps) t cs (fun ds => alloc el ds h fun id h' => k (.l id 0 0 len ds.length (some len)) h') v) N
/-- a block of one value -/
def BX (P : Program) (el : Nat) (v : V) (h : H) (N : Nx) : Prop := HM P (fun k => ifK (knownV v) fun _ => alloc el (cells v) h fun id h => k (.p id 0 0 (cells v).length) h) N
def ST (P : Program) (size : Nat) (p x : V) (h : H) (N : Nx) : Prop := HM P (fun k => vP p fun id g off fin => ifK (Nat.beq (cells x).length size) fun _ => store h id g off fin (cells x) fun h => k (.tu []) h) N
def MS (P : Program) (el : Nat) (z : List V) (l c : V) (h : H) (N : Nx) : Prop := HM P (fun k => vI l fun _ l => natK l fun l => vI c fun _ c => natK c fun c => ifK (Nat.ble l c) fun _ => ifK (Nat.ble c 1048576) fun _ => alloc el (repL z c) h fun id h => k (.l id 0 0 l (Nat.mul c z.length) (some c)) h) N
def AP (P : Program) (el size : Nat) (s x : V) (h : H) (N : Nx) : Prop := HM P (fun k => newCells size x h fun n vs => append2 el size s n vs h k) N
def AS (P : Program) (el : Nat) (s x : V) (h : H) (N : Nx) : Prop := HM P (fun k => newCellsS x fun n vs => append2 el 1 s n vs h k) N
def CP (P : Program) (size : Nat) (x y : V) (h : H) (N : Nx) : Prop := HM P (fun k => vL x (fun _ => copy0 y (k (.i .i64 (.ofNat 0)) h)) fun id g off len fin _ => copyTo size y h k id g off len fin) N
def SB (P : Program) (el : Nat) (x : V) (h : H) (N : Nx) : Prop := HM P (fun k => vS x fun l n => ifK (Nat.ble l 1048576) fun _ => unpK l n [] fun vs => alloc el vs h fun id h => markK h id fun h => k (.l id 0 0 l l (capF l)) h) N
section
variable {P : Program} {t : F} {h : H} {N : Nx} {o x y l c s : O} {el len size : Nat} {z : List V} {ps : List Pt}
theorem or_alloc : OR P (doAlloc el z) t h N = AL P el z (fun id => .p id 0 0 z.length) h N := or_hm fun cf k => rfl
theorem or_box : OR P (doBox el o) t h N = BX P el (oV o t) h N := or_hm fun cf k => by simp only [doBox, oK_eq]
theorem or_buildSlice : OR P (doBuildSlice el len z ps) t h N = FL P ps t z (some (el, len)) h N := or_hm fun cf k => rfl
theorem or_build : OR P (doBuild z ps) t h N = FL P ps t z none h N := or_hm fun cf k => rfl
theorem or_store : OR P (doStore size o x) t h N = ST P size (oV o t) (oV x t) h N := or_hm fun cf k => by simp only [doStore, oE_eq, oK_eq]
theorem or_makeSlice : OR P (doMakeSlice el z l c) t h N = MS P el z (oV l t) (oV c t) h N := or_hm fun cf k => by
  have no : ∀ u : V, (vI u fun _ n => natK n fun _ => false) = false := no1
  simp only [doMakeSlice, oE_eq]
theorem or_append : OR P (doAppend el size s x) t h N = AP P el size (oV s t) (oV x t) h N := or_hm fun cf k => by simp only [doAppend, oK_eq]
theorem or_appendS : OR P (doAppendS el s x) t h N = AS P el (oV s t) (oV x t) h N := or_hm fun cf k => by simp only [doAppendS, oK_eq]
/-- the whole of a text, copied into bytes -/
def CPS (P : Program) (x y : V) (h : H) (N : Nx) : Prop := HM P (fun k => vL x (fun _ => false) fun id g off len fin _ => natC len (fun _ => false) fun _ => copyToS y h k id g off len fin) N
theorem or_copyS {P : Program} {x y : O} {t : F} {h : H} {N : Nx} : OR P (doCopyS x y) t h N = CPS P (oV x t) (oV y t) h N := or_hm fun cf k => by simp only [doCopyS, oK_eq]
theorem or_copy : OR P (doCopy size x y) t h N = CP P size (oV x t) (oV y t) h N := or_hm fun cf k => by simp only [doCopy, oK_eq]
theorem or_s2b : OR P (doS2B el x) t h N = SB P el (oV x t) h N := or_hm fun cf k => by simp only [doS2B, oE_eq]
theorem fl_n : FL P [] t z none h N = N.go P (.a z) h := propext ⟨fun ⟨v, h', e, k⟩ => by obtain ⟨rfl, rfl⟩ := vh_of e; exact k, fun k => ⟨_, _, fun _ => rfl, k⟩⟩
theorem fl_s : FL P [] t z (some (el, len)) h N = AL P el z (fun id => .l id 0 0 len z.length (some len)) h N := rfl
theorem fl_c {e : Option (Nat × Nat)} {off size : Nat} : FL P (Pt.mk off size o :: ps) t z e h N = FP P off size (oV o t) ps t z e h N := by
  have e0 : ∀ k, fillL (⟨off, size, o⟩ :: ps) t z k = fillP off size (fillL ps) t z k (oV o t) := fun k => by show oK o t _ = _; rw [oK_eq]; rfl
  unfold FL FP
  simp only [e0]
theorem fp_of {e : Option (Nat × Nat)} {off size : Nat} {v : V} {cs : List V} (hk : knownV v = true) (hc : cells v = cs) (hs : cs.length = size) (hb : off + size ≤ z.length) : FP P off size v ps t z e h N = FL P ps t (z.take off ++ (cs ++ z.drop (off + size))) e h N := by
  have e0 : ∀ k, fillP off size (fillL ps) t z k v = fillL ps t (z.take off ++ (cs ++ z.drop (off + size))) k := fun k => by
    have h1 : Nat.beq (cells v).length size = true := by rw [hc, hs]; exact Nat.beq_refl _
    have h2 : Nat.ble (Nat.add off size) z.length = true := by rw [Nat.ble_eq]; exact hb
    unfold fillP
    rw [hk, ifK_true, h1, ifK_true, h2, ifK_true, hc]
    unfold putAt
    rw [app_eq, app_eq, hs]
  unfold FP FL
  simp only [e0]
section
variable {e : Option (Nat × Nat)} {off : Nat}
def FPJ (P : Program) (off size : Nat) (v : V) (ps : List Pt) (t : F) (cs : List V) (el : Option (Nat × Nat)) (h : H) (N : Nx) : Prop := FP P off size v ps t cs el h N
theorem fp_at {size : Nat} {v : V} {cs : List V} (hk : knownV v = true) (hc : cells v = cs) (hs : cs.length = size) : FP P off size v ps t z e h N = if off + size ≤ z.length then FL P ps t (z.take off ++ (cs ++ z.drop (off + size))) e h N else FPJ P off size v ps t z e h N := by
  split
  · rename_i hb; exact fp_of hk hc hs hb
  · rfl
theorem fp_i {kd : IntKind} {a : Int} : FP P off 1 (.i kd a) ps t z e h N = if off + 1 ≤ z.length then FL P ps t (z.take off ++ (.i kd a :: z.drop (off + 1))) e h N else FPJ P off 1 (.i kd a) ps t z e h N := fp_at (cs := [.i kd a]) rfl rfl rfl
theorem fp_b {q : Bool} : FP P off 1 (.b q) ps t z e h N = if off + 1 ≤ z.length then FL P ps t (z.take off ++ (.b q :: z.drop (off + 1))) e h N else FPJ P off 1 (.b q) ps t z e h N := fp_at (cs := [.b q]) rfl rfl rfl
theorem fp_sv {s : List UInt8} : FP P off 1 (sv s) ps t z e h N = if off + 1 ≤ z.length then FL P ps t (z.take off ++ (sv s :: z.drop (off + 1))) e h N else FPJ P off 1 (sv s) ps t z e h N := fp_at (cs := [sv s]) rfl rfl rfl
theorem fp_p {id : B} {g o fin : Nat} : FP P off 1 (.p id g o fin) ps t z e h N = if off + 1 ≤ z.length then FL P ps t (z.take off ++ (.p id g o fin :: z.drop (off + 1))) e h N else FPJ P off 1 (.p id g o fin) ps t z e h N := fp_at (cs := [.p id g o fin]) rfl rfl rfl
theorem fp_l {id : B} {g o len fin : Nat} {cap : Option Nat} : FP P off 1 (.l id g o len fin cap) ps t z e h N = if off + 1 ≤ z.length then FL P ps t (z.take off ++ (.l id g o len fin cap :: z.drop (off + 1))) e h N else FPJ P off 1 (.l id g o len fin cap) ps t z e h N := fp_at (cs := [.l id g o len fin cap]) rfl rfl rfl
theorem fp_l0 : FP P off 1 .l0 ps t z e h N = if off + 1 ≤ z.length then FL P ps t (z.take off ++ (.l0 :: z.drop (off + 1))) e h N else FPJ P off 1 .l0 ps t z e h N := fp_at (cs := [.l0]) rfl rfl rfl
theorem fp_a {size : Nat} {cs : List V} : FP P off size (.a cs) ps t z e h N = if cs.length = size ∧ off + size ≤ z.length then FL P ps t (z.take off ++ (cs ++ z.drop (off + size))) e h N else FPJ P off size (.a cs) ps t z e h N := by
  split
  · rename_i hb; exact fp_of rfl rfl hb.1 hb.2
  · rfl
end
theorem bx_i {kd : IntKind} {a : Int} : BX P el (.i kd a) h N = AL P el [.i kd a] (fun id => .p id 0 0 1) h N := rfl
theorem bx_b {q : Bool} : BX P el (.b q) h N = AL P el [.b q] (fun id => .p id 0 0 1) h N := rfl
theorem bx_sv {s : List UInt8} : BX P el (sv s) h N = AL P el [sv s] (fun id => .p id 0 0 1) h N := rfl
theorem bx_a {cs : List V} : BX P el (.a cs) h N = AL P el cs (fun id => .p id 0 0 cs.length) h N := rfl
theorem bx_p {id : B} {g o fin : Nat} : BX P el (.p id g o fin) h N = AL P el [.p id g o fin] (fun id => .p id 0 0 1) h N := rfl
theorem bx_l {id : B} {g o len fin : Nat} {cap : Option Nat} : BX P el (.l id g o len fin cap) h N = AL P el [.l id g o len fin cap] (fun id => .p id 0 0 1) h N := rfl
theorem bx_l0 : BX P el .l0 h N = AL P el [.l0] (fun id => .p id 0 0 1) h N := rfl
theorem ms_i {kd kd' : IntKind} {a b : Int} (h1 : 0 ≤ a) (h2 : a ≤ b) (h3 : b ≤ 1048576) : MS P el z (.i kd a) (.i kd' b) h N = AL P el (repL z b.toNat) (fun id => .l id 0 0 a.toNat (b.toNat * z.length) (some b.toNat)) h N := by
  have e1 : Nat.ble a.toNat b.toNat = true := by rw [Nat.ble_eq]; omega
  have e2 : Nat.ble b.toNat 1048576 = true := by rw [Nat.ble_eq]; omega
  have e : ∀ k : V → H → Bool, (vI (.i kd a) fun _ l => natK l fun l => vI (.i kd' b) fun _ c => natK c fun c => ifK (Nat.ble l c) fun _ => ifK (Nat.ble c 1048576) fun _ => alloc el (repL z c) h fun id h => k (.l id 0 0 l (Nat.mul c z.length) (some c)) h) =
      alloc el (repL z b.toNat) h fun id h => k (.l id 0 0 a.toNat (b.toNat * z.length) (some b.toNat)) h := fun k => by
    simp only [vI_i, natK_nn h1, natK_nn (Int.le_trans h1 h2), e1, e2, ifK_true]; rfl
  unfold MS AL
  simp only [e]
end
section
variable {P : Program} {h : H} {N : Nx} {id : B} {xs : List V} {j fin : Nat} {x y : V}
/-- at one place written -/
theorem ST.own (o : Own h id xs) (hc : cells x = [y]) (h1 : oneV y = true) (hj : j < fin) (hfit : j < 2 ^ 37) (k : ∀ h', Own h' id (xs.set j y) → Stay (fun i => i = id) h h' → N.go P (.tu []) h') : ST P 1 (.p id 0 j fin) x h N := by
  obtain ⟨h', a1, a2, a3⟩ := store_own o hj hfit h1
  refine hm_of (v := .tu []) (h' := h') (fun k => ?_) (k h' a2 a3)
  show ifK (Nat.beq (cells x).length 1) (fun _ => store h id 0 j fin (cells x) fun h => k (.tu []) h) = _
  rw [hc]
  show store h id 0 j fin [y] (fun h => k (.tu []) h) = _
  rw [a1]
theorem ST.buf {el : Nat} {v : V} (b : Buf h el 1 v xs) (tp : Top h v) (hc : cells x = [y]) (h1 : oneV y = true) (hj : j < xs.length) (hfit : j < 2 ^ 37) (k : ∀ h', Buf h' el 1 v (xs.set j y) → Top h' v → Stay (isOf v) h h' → N.go P (.tu []) h') : ST P 1 (.p (lid v) (lg v) (loff v + j) (lfin v)) x h N := by
  obtain ⟨h', a1, a2, a3, a4⟩ := store_buf b tp hj hfit h1
  refine hm_of (v := .tu []) (h' := h') (fun k => ?_) (k h' a2 a3 a4)
  show ifK (Nat.beq (cells x).length 1) (fun _ => store h _ _ _ _ (cells x) fun h => k (.tu []) h) = _
  rw [hc]
  show store h _ _ _ _ [y] (fun h => k (.tu []) h) = _
  rw [a1]
end
section
variable {P : Program} {t : F} {h : H} {K : F → H → Prop} {l : List CO} {N : Nx} {el n m lo : Nat} {s : O} {v y : V} {xs : List V} {id : B}
theorem AP.buf {size cnt : Nat} {x : V} {vs : List V} (b : Buf h el size v xs) (hx : ∀ k : Nat → List V → Bool, newCells size x h k = k cnt vs) (hf : B.val h.floor ≤ B.val h.next) (hsz : 1 ≤ size) (hn : vs.length = cnt * size) (h1 : allOne vs = true) (hb : xs.length + vs.length ≤ 1048576)
    (k : ∀ v' h', Buf h' el size v' (xs ++ vs) → Stay (isOf v) h h' → (∀ i, isOf v' i → isOf v i ∨ B.val h.next ≤ B.val i) → Top h' v' → N.go P v' h') : AP P el size v x h N := by
  obtain ⟨v', h', a1, a2, a3, a4, a5⟩ := append_top b hf hsz hn h1 hb
  exact hm_of (v := v') (h' := h') (fun k => by rw [hx, a1]) (k v' h' a2 a3 a4 a5)
theorem new_row {size : Nat} {fin cnt : Nat} {cap : Option Nat} {vs : List V} (r : Row h id 0 0 vs) (hn : vs.length = cnt * size) (hc : 1 ≤ cnt) (hs : 1 ≤ size) (hfin : vs.length ≤ fin) (k : Nat → List V → Bool) : newCells size (.l id 0 0 cnt fin cap) h k = k cnt vs := by
  obtain ⟨c, rfl⟩ : ∃ c, cnt = c + 1 := ⟨cnt - 1, by omega⟩
  have hne : vs ≠ [] := by
    intro e; subst e
    have := Nat.mul_le_mul hc hs
    simp at hn; omega
  show loadN h id 0 0 fin (Nat.mul (c + 1) size) (fun vs => k (c + 1) vs) = _
  rw [show Nat.mul (c + 1) size = vs.length by rw [hn]; rfl, loadN_row r rfl hne (by omega)]
/-- append(v, y): its literal, and it -/
theorem AL.push {b : Bool} (a : Vb h lo el v xs) (e3 : ∀ u, oV s (put m u t) = v) (hc : cells y = [y]) (h1 : oneV y = true) (hf : B.val h.floor ≤ B.val h.next) (hlo : lo ≤ B.val h.next) (hl : xs.length + 1 ≤ 1048576)
    (k : ∀ v' h' u, Vb h' lo el v' (xs ++ [y]) → Stay (isOf v) h h' → (∀ i, isOf v' i → isOf v i ∨ B.val h.next ≤ B.val i) → Top h' v' → WO P l (put n v' (put m u t)) h' K) :
    AL P el [y] (fun id => .l id 0 0 1 [y].length (some 1)) h (.w m (.mk .none (.some (slOf n)) b (.mk (doAppend el 1 s (.t (slOf m)))) :: l) t K) := by
  refine AL.own (by show 1 < 2 ^ 37; decide) hf fun h1' s1 n1 o1 => ?_
  rw [go_w, wo_c, or_append, e3, oV_t, get_put', if_pos rfl]
  refine AP.buf (vs := [y]) (cnt := 1) (a.buf.grow s1) (new_row o1.row rfl (Nat.le_refl _) (Nat.le_refl _) (Nat.le_refl _)) (s1.fl hf) (Nat.le_refl _) rfl (by show Bool.rec false true (oneV y) = true; rw [h1]) (by show xs.length + 1 ≤ _; exact hl) fun v' h' b1 s2 hv tp => ?_
  refine k v' h' _ ⟨b1, fun i hi => ?_⟩ ⟨s2.floor.trans s1.floor, Nat.le_trans s1.next s2.next, fun id' h1' h2 => (s2.get id' (Nat.lt_of_lt_of_le h1' s1.next) h2).trans (s1.get id' h1' fun h => h)⟩ (fun i hi => ?_) tp
  · rcases hv i hi with h2 | h2
    · exact a.own i h2
    · have := s1.next; omega
  · rcases hv i hi with h2 | h2
    · exact .inl h2
    · exact .inr (Nat.le_trans s1.next h2)
/-- string([]byte{..}) -/
theorem AL.str {b : Bool} {cs : List V} {bs : List UInt8} {len fin : Nat} {cap : Option Nat} (hc : cs = bs.map bv) (hne : bs ≠ []) (e1 : len = bs.length) (e2 : fin = bs.length) (hl : bs.length ≤ 1048576) (hf : B.val h.floor ≤ B.val h.next)
    (k : ∀ h' u, Stay nowhere h h' → WO P l (put n (sv bs) (put m u t)) h' K) : AL P el cs (fun id => .l id 0 0 len fin cap) h (.w m (.mk .none (.some (slOf n)) b (.mk (doB2S (.t (slOf m)))) :: l) t K) := by
  subst hc; subst e1; subst e2
  refine AL.own (by rw [List.length_map]; omega) hf fun h1' s1 n1 o1 => ?_
  have hL := o1.lst cap
  rw [List.length_map] at hL
  rw [go_w, wo_c, or_b2s, oV_t, get_put', if_pos rfl, hL.bs hne]
  exact k _ _ s1
theorem bv_i {a : Int} (h0 : 0 ≤ a) (h1 : a ≤ 255) : V.i .u8 a = bv (UInt8.ofNat a.toNat) := by
  obtain ⟨x, rfl⟩ := Int.eq_ofNat_of_zero_le h0
  rw [Int.toNat_natCast, ← bv_ofNat, Nat.mod_eq_of_lt (by omega)]
/-- []byte(text) -/
theorem SB.mk {c : List UInt8} (hf : B.val h.floor ≤ B.val h.next) (hl : c.length ≤ 1048576)
    (k : ∀ h', Stay nowhere h h' → B.val h'.next = B.val h.next + 1 → Lst h' (.l h.next 0 0 c.length c.length (capF c.length)) (c.map bv) → N.go P (.l h.next 0 0 c.length c.length (capF c.length)) h') : SB P el (sv c) h N := by
  obtain ⟨h', a1, a2, a3, a4, a5, a6⟩ := s2b_new el hf hl
  have := fun k => a1 (.c (sv c)) F.zero (fun _ _ _ _ => false) k rfl
  refine hm_of (v := .l h.next 0 0 c.length c.length (capF c.length)) (h' := h') (fun k => ?_) (k h' a2 a3 a5)
  have e := this k
  simp only [doS2B, oE_eq] at e
  exact e
end
section
variable {P : Program} {t : F} {h : H} {N : Nx} {x a : O} {id : B} {n K size : Nat} {kd : IntKind} {z : Int}
theorem or_slLo : OR P (doSlice size x (some a) none) t h N = H2 P (slLoV size) (oV x t) (oV a t) h N := or_hv fun cf k => ev_slLo ..
theorem or_slHi : OR P (doSlice size x none (some a)) t h N = H2 P (slHiV size) (oV x t) (oV a t) h N := or_hv fun cf k => ev_slHi ..
noncomputable def slBoV (size : Nat) (v w z : V) (k : V → Bool) : Bool := vL v (fun _ => vI w fun _ n => natK n fun a => vI z fun _ m => natK m fun b => ifK (Nat.beq a 0) fun _ => ifK (Nat.beq b 0) fun _ => k .l0) fun id g off len fin cap => vI w fun _ n => natK n fun a => vI z fun _ m => natK m fun b => ifK (Nat.ble a b) fun _ =>
  Option.rec (fun id g off len fin a b k => sliceN size id g off len fin a b fun v => k v) (fun c id g off len fin a b k => boolK (flagB c) (fun _ => ifK (Nat.beq b 0) fun _ => k (.l id g off 0 off (some c))) (fun _ => sliceC size id g off len fin c a b fun v => k v)) cap id g off len fin a b k
theorem ev_slBo {cf : CallF} {k : V → H → Bool} (size : Nat) (b : O) : doSlice size x (some a) (some b) cf t h k = slBoV size (oV x t) (oV a t) (oV b t) fun v => k v h := by
  unfold slBoV
  simp only [doSlice, oE_eq, boundK]
  congr 1
  funext id g off len fin cap
  congr 1; funext _ n; congr 1; funext a; congr 1; funext _ m; congr 1; funext b; congr 1; funext _
  cases cap with
  | none => rfl
  | some c =>
    show boolK (flagB c) _ _ = boolK (flagB c) _ _
    cases flagB c <;> rfl
theorem or_slBo (b : O) : OR P (doSlice size x (some a) (some b)) t h N = H3 P (slBoV size) (oV x t) (oV a t) (oV b t) h N := or_hv fun cf k => ev_slBo ..
theorem h2_sliceArr {g off fin : Nat} (hK : n < 18446744073709551616) (h0 : 0 ≤ z) (hn : z < n) : H2 P (gSliceArr n size) (.p id g off fin) (.i kd z) h N = N.go P (.l id g (off + z.toNat * size) (n - z.toNat) fin (some (n - z.toNat))) h := hv_of fun k => by
  show natK z (fun p => ifK (Nat.ble p n) fun _ => sliceC size id g off n fin n p n k) = _
  rw [natK_nn h0, ifBle (by omega), sliceC_mid hK (Nat.le_refl _) (by omega)]
theorem h2_slLo (hKM : K < 18446744073709551616) (h0 : 0 ≤ z) (hn : z ≤ K) : H2 P (slLoV 1) (.l id 0 0 K K (some K)) (.i kd z) h N = N.go P (tailV id K z.toNat) h := hv_of fun k => by
  obtain ⟨n, rfl⟩ := Int.eq_ofNat_of_zero_le h0
  exact slLo_row hKM (by omega) k
theorem h2_slHi (hKM : K < 18446744073709551616) (h0 : 0 ≤ z) (hn : z ≤ K) (hK : 0 < K) : H2 P (slHiV 1) (.l id 0 0 K K (some K)) (.i kd z) h N = N.go P (.l id 0 0 z.toNat K (some K)) h := hv_of fun k => by
  obtain ⟨n, rfl⟩ := Int.eq_ofNat_of_zero_le h0
  exact slHi_row hKM (by omega) hK k
end
def CL (P : Program) (f : FuncId) (vs : List V) (h : H) (N : Nx) : Prop := ∃ Q, FnOk P f vs h Q ∧ ∀ v h', Q v h' → N.go P v h'
theorem CL.mk {P : Program} {f : FuncId} {vs : List V} {h : H} {N : Nx} {Q : V → H → Prop} (a : FnOk P f vs h Q) (k : ∀ v h', Q v h' → N.go P v h') : CL P f vs h N := ⟨Q, a, k⟩
/-- .. that leaves memory alone -/
theorem CL.pure {P : Program} {f : FuncId} {vs : List V} {h : H} {N : Nx} {e : V} (a : FnOk P f vs h fun y h' => y = e ∧ h' = h) (k : N.go P e h) : CL P f vs h N := ⟨_, a, fun v h' hq => by rw [hq.1, hq.2]; exact k⟩
/-- .. that makes blocks of its own alone -/
theorem CL.stay {P : Program} {f : FuncId} {vs : List V} {h : H} {N : Nx} {e : V} (a : FnOk P f vs h fun y h' => y = e ∧ Stay nowhere h h') (k : ∀ h', Stay nowhere h h' → N.go P e h') : CL P f vs h N := ⟨_, a, fun v h' hq => by rw [hq.1]; exact k h' hq.2⟩
theorem or_call {P : Program} {t : F} {h : H} {N : Nx} {f : FuncId} {args : List O} : OR P (doCall f args) t h N = CL P f (args.map fun o => oV o t) h N := by
  apply propext; constructor
  · rintro ⟨v, h', ⟨cf, c1, c2⟩, k⟩
    have c3 : ∀ k, cf f (args.map fun o => oV o t) h k = k v h' := fun k => by rw [← c2 k]; show _ = evalsK args t (fun vs => cf f vs h k); rw [evalsK_eq]
    obtain ⟨v', h'', e, r1, r2, r3⟩ := c1 f _ h (fun _ _ => true) (c3 _)
    obtain ⟨rfl, rfl⟩ := vh_of fun k => (c3 k).symm.trans (e k)
    refine ⟨fun v h => v = v' ∧ h = h'', ⟨v', h'', ⟨r1, r2, r3⟩, rfl, rfl⟩, ?_⟩
    rintro _ _ ⟨rfl, rfl⟩
    exact k
  · rintro ⟨Q, a, k⟩
    obtain ⟨v, h', c1, c2⟩ := cfS_call (S := fun _ _ _ v h' => Q v h') a
    exact ⟨v, h', ⟨_, cfS_ok P _, fun k => by show evalsK args t _ = _; rw [evalsK_eq, c1]⟩, k v h' c2⟩
theorem or_mkF {P : Program} {t : F} {h : H} {N : Nx} {f : FuncId} {cap : List O} : OR P (doMkF f cap) t h N = N.go P (.f f (cap.map fun o => oV o t)) h := (or_hv (g := fun k => k (.f f (cap.map fun o => oV o t))) fun cf k => by show evalsK cap t _ = _; rw [evalsK_eq]).trans (hv_of fun _ => rfl)
/-- a call of a function value -/
def CLF (P : Program) (x : V) (vs : List V) (h : H) (N : Nx) : Prop := ∃ f cs, x = .f f cs ∧ CL P f (vs ++ cs) h N
theorem clf_eq {P : Program} {f : FuncId} {cs vs : List V} {h : H} {N : Nx} : CLF P (.f f cs) vs h N = CL P f (vs ++ cs) h N := propext ⟨fun ⟨_, _, e, a⟩ => by cases e; exact a, fun a => ⟨_, _, rfl, a⟩⟩
theorem or_callV {P : Program} {t : F} {h : H} {N : Nx} {x : O} {args : List O} : OR P (doCallV x args) t h N = CLF P (oV x t) (args.map fun o => oV o t) h N := by
  have key : ∀ f cs, oV x t = .f f cs → OR P (doCallV x args) t h N = CL P f ((args.map fun o => oV o t) ++ cs) h N := fun f cs hx => by
    have e : ∀ cf k, doCallV x args cf t h k = cf f ((args.map fun o => oV o t) ++ cs) h k := fun cf k => by show oE x t _ = _; rw [oE_eq]; show evalsK args t _ = _; rw [evalsK_eq, hx, vF_f, app_eqV]
    apply propext; constructor
    · rintro ⟨v, h', ⟨cf, c1, c2⟩, k⟩
      have c3 : ∀ k, cf f ((args.map fun o => oV o t) ++ cs) h k = k v h' := fun k => (e cf k).symm.trans (c2 k)
      obtain ⟨v', h'', e, r1, r2, r3⟩ := c1 f _ h (fun _ _ => true) (c3 _)
      obtain ⟨rfl, rfl⟩ := vh_of fun k => (c3 k).symm.trans (e k)
      refine ⟨fun v h => v = v' ∧ h = h'', ⟨v', h'', ⟨r1, r2, r3⟩, rfl, rfl⟩, ?_⟩
      rintro _ _ ⟨rfl, rfl⟩
      exact k
    · rintro ⟨Q, a, k⟩
      obtain ⟨v, h', c1, c2⟩ := cfS_call (S := fun _ _ _ v h' => Q v h') a
      exact ⟨v, h', ⟨_, cfS_ok P _, fun k => (e _ k).trans (c1 k)⟩, k v h' c2⟩
  apply propext; constructor
  · intro a
    have a' := a
    obtain ⟨v, h', ⟨cf, c1, c2⟩, k⟩ := a'
    have := c2 fun _ _ => true
    have h2 : (oE x t fun y => evalsK args t fun vs => vF y fun f cs => cf f (app vs cs) h fun _ _ => true) = true := this
    rw [oE_eq] at h2
    have h2 : (evalsK args t fun vs => vF (oV x t) fun f cs => cf f (app vs cs) h fun _ _ => true) = true := h2
    rw [evalsK_eq] at h2
    obtain ⟨f, cs, hx, _⟩ := vF_ok h2
    exact ⟨f, cs, hx, by rw [← key f cs hx]; exact a⟩
  · rintro ⟨f, cs, hx, a⟩
    rw [key f cs hx]; exact a
def CD (v : V) (A B : Prop) : Prop := ∃ q, v = .b q ∧ (q = true → A) ∧ (q = false → B)
theorem Ok.cd {P : Program} {nt : Nat} {o : O} {a b : CC} {t : F} {h : H} {K : X → F → H → Prop} (c : CD (oV o t) (Ok P nt a t h K) (Ok P nt b t h K)) : Ok P nt (.cond o a b) t h K := by
  obtain ⟨q, hq, ha, hb⟩ := c
  exact Ok.cond hq ha hb
theorem cd_t {A B : Prop} : CD (.b true) A B = A := propext ⟨fun ⟨q, hq, ha, _⟩ => by cases hq; exact ha rfl, fun a => ⟨true, rfl, fun _ => a, fun h => by cases h⟩⟩
theorem cd_f {A B : Prop} : CD (.b false) A B = B := propext ⟨fun ⟨q, hq, _, hb⟩ => by cases hq; exact hb rfl, fun b => ⟨false, rfl, fun h => (by cases h), fun _ => b⟩⟩
theorem cd_split {q : Bool} {A B : Prop} (a : q = true → A) (b : q = false → B) : CD (.b q) A B := ⟨q, rfl, a, b⟩
/-- behind the first part: b, then K -/
def Sq (P : Program) (nt : Nat) (b : CC) (K : X → F → H → Prop) : X → F → H → Prop
  | .normal, t, h => Ok P nt b t h K
  | x, t, h => K x t h
/-- the next round -/
def LpG (Inv : Nat → F → H → Prop) (m : Nat) (t : F) (h : H) : Prop := ∃ m', m' < m ∧ Inv m' t h
def LpK (Inv : Nat → F → H → Prop) (m : Nat) (K : X → F → H → Prop) : X → F → H → Prop
  | .normal, t, h => LpG Inv m t h
  | x, t, h => K x t h
section
variable {P : Program} {nt : Nat} {a b : CC} {t : F} {h : H} {K : X → F → H → Prop} {Inv : Nat → F → H → Prop} {m j id : Nat}
theorem Ok.sq (k : Ok P nt a t h (Sq P nt b K)) : Ok P nt (.seq a b) t h K := Ok.seq (k.mono fun x t h => by cases x <;> exact fun h => h)
theorem sq_n : Sq P nt b K .normal t h = Ok P nt b t h K := rfl
theorem sq_e : Sq P nt b K (.exit j) t h = K (.exit j) t h := rfl
theorem sq_r : Sq P nt b K .ret t h = K .ret t h := rfl
theorem lp_n : LpK Inv m K .normal t h = LpG Inv m t h := rfl
theorem lp_e : LpK Inv m K (.exit j) t h = K (.exit j) t h := rfl
theorem lp_r : LpK Inv m K .ret t h = K .ret t h := rfl
def IsI (I Inv : Nat → F → H → Prop) : Prop := I = Inv
/-- a loop: the invariant, with a measure that falls -/
theorem Ok.lp (Inv : Nat → F → H → Prop) (m : Nat) (i : Inv m t h) (round : ∀ I : Nat → F → H → Prop, IsI I Inv → ∀ m t h, Inv m t h → Ok P nt a t h (LpK I m K)) : Ok P nt (.loop a) t h K :=
  Ok.loop Inv (fun m t h hi => (round Inv rfl m t h hi).mono fun x t h => by cases x <;> exact fun h => h) m t h i
theorem lp_next {I : Nat → F → H → Prop} (e : IsI I Inv) (m' : Nat) (hm : m' < m) (k : Inv m' t h) : LpG I m t h := by have e' : I = Inv := e; subst e'; exact ⟨m', hm, k⟩
end
def FnK (rs : List Rs) (Q : V → H → Prop) : X → F → H → Prop := fun x t' h' => match x with
  | .exit _ => False
  | _ => ∃ us, (∀ k : List V → Bool, resK rs t' h' k = k us) ∧ Q (one us) h'
theorem fn_go {P : Program} {f : FuncId} {nt : Nat} {cc : CC} {rs : List Rs} {vs : List V} {h : H} {Q : V → H → Prop} (hc : compFn P f = ⟨nt, cc, rs⟩) (hbad : cc ≠ .bad) (hl1 : vs.length ≤ nt) (hl2 : vs.length ≤ 512)
    (ok : ∀ Q', Q' = Q → Ok P nt cc (slotsF vs 0 F.zero) h (FnK rs Q')) : FnOk P f vs h Q := fn_run hc hbad hl1 hl2 (ok Q rfl)
section
variable {Q : V → H → Prop} {t : F} {h : H} {n m p q : Nat}
theorem fnk_of {rs : List Rs} {us : List V} (e : ∀ k : List V → Bool, resK rs t h k = k us) : FnK rs Q .ret t h = Q (one us) h :=
  propext ⟨fun ⟨vs, e', k⟩ => by have := l_of fun k => (e k).symm.trans (e' k); subst this; exact k, fun k => ⟨us, e, k⟩⟩
theorem fnk_n {rs : List Rs} : FnK rs Q .normal t h = FnK rs Q .ret t h := rfl
theorem fnk_0 : FnK [] Q .ret t h = Q (.tu []) h := fnk_of (us := []) fun k => rfl
theorem fnk_1 : FnK [Rs.tmp (slOf n)] Q .ret t h = Q (get n t) h := fnk_of (us := [_]) fun k => res_1 ..
theorem fnk_2 : FnK [Rs.tmp (slOf n), Rs.tmp (slOf m)] Q .ret t h = Q (.tu [get n t, get m t]) h := fnk_of (us := [_, _]) fun k => res_2 ..
theorem fnk_3 : FnK [Rs.tmp (slOf n), Rs.tmp (slOf m), Rs.tmp (slOf p)] Q .ret t h = Q (.tu [get n t, get m t, get p t]) h := fnk_of (us := [_, _, _]) fun k => res_3 ..
theorem fnk_4 : FnK [Rs.tmp (slOf n), Rs.tmp (slOf m), Rs.tmp (slOf p), Rs.tmp (slOf q)] Q .ret t h = Q (.tu [get n t, get m t, get p t, get q t]) h := fnk_of (us := [_, _, _, _]) fun k => by
  show forceV (sGet (slOf n) t) (fun v => forceV (sGet (slOf m) t) fun u => forceV (sGet (slOf p) t) fun w => forceV (sGet (slOf q) t) fun z => k [v, u, w, z]) = _
  rw [forceV_eq, forceV_eq, forceV_eq, forceV_eq]; rfl
end
/-- results, the first out of a box -/
def RA (Q : V → H → Prop) (size : Nat) (v : V) (us : List V) (h : H) : Prop := ∃ vs, (∀ k : List V → Bool, (vP v fun id g off fin => loadN h id g off fin size k) = k vs) ∧ Q (one (.a vs :: us)) h
section
variable {Q : V → H → Prop} {t : F} {h : H} {n m p q size : Nat}
theorem ra_of {rs : List Rs} {us : List V} (e : ∀ (k : List V → Bool), (rsK (Rs.cellA (slOf n) size) t h fun w => resK rs t h fun vs => k (w :: vs)) = vP (get n t) fun id g off fin => loadN h id g off fin size fun vs => k (.a vs :: us)) : FnK (Rs.cellA (slOf n) size :: rs) Q .ret t h = RA Q size (get n t) us h := by
  refine propext ⟨fun ⟨ws, e', k⟩ => ?_, fun ⟨vs, e', k⟩ => ⟨.a vs :: us, fun k => ?_, k⟩⟩
  · have e2 := fun k => (e k).symm.trans (e' k)
    have e3 := e2 (fun zs => true)
    obtain ⟨id, g, off, fin, hp⟩ : ∃ id g off fin, get n t = .p id g off fin := by
      revert e3
      cases get n t <;> intro e3 <;> first | exact ⟨_, _, _, _, rfl⟩ | exact Bool.noConfusion e3
    rw [hp] at e2 ⊢
    have e4 : ∀ k : List V → Bool, loadN h id g off fin size (fun vs => k (.a vs :: us)) = k ws := e2
    obtain ⟨vs, hv, _⟩ := loadN_ok (h := h) (id := id) (g := g) (off := off) (fin := fin) (n := size) (k := fun _ => true) (e4 fun _ => true)
    have : ws = .a vs :: us := l_of fun k => by rw [← e4 k, hv]
    subst this
    exact ⟨vs, hv, k⟩
  · have := e' fun vs => k (.a vs :: us)
    rw [← this]; exact e k
theorem fnk_A0 : FnK [Rs.cellA (slOf n) size] Q .ret t h = RA Q size (get n t) [] h := ra_of fun k => rfl
theorem fnk_A1 : FnK [Rs.cellA (slOf n) size, Rs.tmp (slOf m)] Q .ret t h = RA Q size (get n t) [get m t] h := ra_of fun k => by
  show (vP (get n t) fun id g off fin => loadN h id g off fin size fun vs => forceV (get m t) fun v => k [.a vs, v]) = _
  simp only [forceV_eq]
theorem fnk_A2 : FnK [Rs.cellA (slOf n) size, Rs.tmp (slOf m), Rs.tmp (slOf p)] Q .ret t h = RA Q size (get n t) [get m t, get p t] h := ra_of fun k => by
  show (vP (get n t) fun id g off fin => loadN h id g off fin size fun vs => forceV (get m t) fun v => forceV (get p t) fun u => k [.a vs, v, u]) = _
  simp only [forceV_eq]
theorem Own.ra {id : B} {xs us : List V} {fin : Nat} (o : Own h id xs) (hs : xs.length = size) (h1 : 1 ≤ size) (hf : size ≤ fin) : RA Q size (.p id 0 0 fin) us h = Q (one (.a xs :: us)) h := by
  have e : ∀ k : List V → Bool, loadN h id 0 0 fin size k = k xs := fun k => loadN_row o.row hs (by intro e; subst e; simp at hs; omega) (by omega) k
  refine propext ⟨fun ⟨vs, e', k⟩ => ?_, fun k => ⟨xs, e, k⟩⟩
  have : vs = xs := l_of fun k => (e k).symm.trans (e' k)
  subst this; exact k
end
theorem one_0 : one [] = .tu [] := rfl
theorem wrap_u8 {n : Int} (h1 : 0 ≤ n) (h2 : n ≤ 255) : IntKind.u8.wrap n = n := by
  simp only [IntKind.wrap, IntKind.bits, IntKind.signed]; simp; omega
theorem wrap_u16 {n : Int} (h1 : 0 ≤ n) (h2 : n ≤ 65535) : IntKind.u16.wrap n = n := by
  simp only [IntKind.wrap, IntKind.bits, IntKind.signed]; simp; omega
theorem wrap_u32 {n : Int} (h1 : 0 ≤ n) (h2 : n ≤ 4294967295) : IntKind.u32.wrap n = n := by
  simp only [IntKind.wrap, IntKind.bits, IntKind.signed]; simp; omega
theorem wrap_u64 {n : Int} (h1 : 0 ≤ n) (h2 : n ≤ 18446744073709551615) : IntKind.u64.wrap n = n := by
  simp only [IntKind.wrap, IntKind.bits, IntKind.signed]; simp; omega
theorem wrap_i32 {n : Int} (h1 : -2147483648 ≤ n) (h2 : n ≤ 2147483647) : IntKind.i32.wrap n = n := by
  simp only [IntKind.wrap, IntKind.bits, IntKind.signed]; simp; omega
theorem wrap_u8m {n : Int} : IntKind.u8.wrap n = n % 256 := by
  simp only [IntKind.wrap, IntKind.bits, IntKind.signed]; simp
theorem wrap_i64c (c : UInt8) : IntKind.i64.wrap (c.toNat : Int) = (c.toNat : Int) := wrap_i64 (by omega) (by have := c.toNat_lt; omega)
theorem wrap_u8c (c : UInt8) : IntKind.u8.wrap (c.toNat : Int) = (c.toNat : Int) := wrap_u8 (by omega) (by have := c.toNat_lt; omega)
theorem wrap_u16c (c : UInt8) : IntKind.u16.wrap (c.toNat : Int) = (c.toNat : Int) := wrap_u16 (by omega) (by have := c.toNat_lt; omega)
theorem wrap_u32c (c : UInt8) : IntKind.u32.wrap (c.toNat : Int) = (c.toNat : Int) := wrap_u32 (by omega) (by have := c.toNat_lt; omega)
theorem wrap_u64c (c : UInt8) : IntKind.u64.wrap (c.toNat : Int) = (c.toNat : Int) := wrap_u64 (by omega) (by have := c.toNat_lt; omega)
theorem bits_i64 : IntKind.bits .i64 = 64 := rfl
theorem bits_u64 : IntKind.bits .u64 = 64 := rfl
theorem bits_u32 : IntKind.bits .u32 = 32 := rfl
theorem bits_u16 : IntKind.bits .u16 = 16 := rfl
theorem bits_u8 : IntKind.bits .u8 = 8 := rfl
theorem bits_i32 : IntKind.bits .i32 = 32 := rfl
end Go.Ev

set_option linter.all false
set_option maxRecDepth 10000
namespace Go.Ev
open Go
section
variable {P : Program} {h : H} {N : Nx} {a b : Int}
theorem h2_and_i64 (ha : 0 ≤ a) (ha2 : a ≤ 9223372036854775807) (hb : 0 ≤ b) (hb2 : b ≤ 9223372036854775807) : H2 P (gBin fAnd) (.i .i64 a) (.i .i64 b) h N = N.go P (.i .i64 ((a.toNat &&& b.toNat : Nat) : Int)) h := h2_and (m := 9223372036854775807) rfl ha ha2 hb hb2
theorem h2_and_u8 (ha : 0 ≤ a) (ha2 : a ≤ 255) (hb : 0 ≤ b) (hb2 : b ≤ 255) : H2 P (gBin fAnd) (.i .u8 a) (.i .u8 b) h N = N.go P (.i .u8 ((a.toNat &&& b.toNat : Nat) : Int)) h := h2_and (m := 255) rfl ha ha2 hb hb2
theorem h2_and_u16 (ha : 0 ≤ a) (ha2 : a ≤ 65535) (hb : 0 ≤ b) (hb2 : b ≤ 65535) : H2 P (gBin fAnd) (.i .u16 a) (.i .u16 b) h N = N.go P (.i .u16 ((a.toNat &&& b.toNat : Nat) : Int)) h := h2_and (m := 65535) rfl ha ha2 hb hb2
theorem h2_and_u32 (ha : 0 ≤ a) (ha2 : a ≤ 4294967295) (hb : 0 ≤ b) (hb2 : b ≤ 4294967295) : H2 P (gBin fAnd) (.i .u32 a) (.i .u32 b) h N = N.go P (.i .u32 ((a.toNat &&& b.toNat : Nat) : Int)) h := h2_and (m := 4294967295) rfl ha ha2 hb hb2
theorem h2_and_u64 (ha : 0 ≤ a) (ha2 : a ≤ 18446744073709551615) (hb : 0 ≤ b) (hb2 : b ≤ 18446744073709551615) : H2 P (gBin fAnd) (.i .u64 a) (.i .u64 b) h N = N.go P (.i .u64 ((a.toNat &&& b.toNat : Nat) : Int)) h := h2_and (m := 18446744073709551615) rfl ha ha2 hb hb2
theorem h2_or_i64 (ha : 0 ≤ a) (ha2 : a ≤ 9223372036854775807) (hb : 0 ≤ b) (hb2 : b ≤ 9223372036854775807) : H2 P (gBin fOr) (.i .i64 a) (.i .i64 b) h N = N.go P (.i .i64 ((a.toNat ||| b.toNat : Nat) : Int)) h := h2_or (m := 9223372036854775807) rfl ha ha2 hb hb2
theorem h2_or_u8 (ha : 0 ≤ a) (ha2 : a ≤ 255) (hb : 0 ≤ b) (hb2 : b ≤ 255) : H2 P (gBin fOr) (.i .u8 a) (.i .u8 b) h N = N.go P (.i .u8 ((a.toNat ||| b.toNat : Nat) : Int)) h := h2_or (m := 255) rfl ha ha2 hb hb2
theorem h2_or_u16 (ha : 0 ≤ a) (ha2 : a ≤ 65535) (hb : 0 ≤ b) (hb2 : b ≤ 65535) : H2 P (gBin fOr) (.i .u16 a) (.i .u16 b) h N = N.go P (.i .u16 ((a.toNat ||| b.toNat : Nat) : Int)) h := h2_or (m := 65535) rfl ha ha2 hb hb2
theorem h2_or_u32 (ha : 0 ≤ a) (ha2 : a ≤ 4294967295) (hb : 0 ≤ b) (hb2 : b ≤ 4294967295) : H2 P (gBin fOr) (.i .u32 a) (.i .u32 b) h N = N.go P (.i .u32 ((a.toNat ||| b.toNat : Nat) : Int)) h := h2_or (m := 4294967295) rfl ha ha2 hb hb2
theorem h2_or_u64 (ha : 0 ≤ a) (ha2 : a ≤ 18446744073709551615) (hb : 0 ≤ b) (hb2 : b ≤ 18446744073709551615) : H2 P (gBin fOr) (.i .u64 a) (.i .u64 b) h N = N.go P (.i .u64 ((a.toNat ||| b.toNat : Nat) : Int)) h := h2_or (m := 18446744073709551615) rfl ha ha2 hb hb2
theorem h2_xor_i64 (ha : 0 ≤ a) (ha2 : a ≤ 9223372036854775807) (hb : 0 ≤ b) (hb2 : b ≤ 9223372036854775807) : H2 P (gBin fXor) (.i .i64 a) (.i .i64 b) h N = N.go P (.i .i64 ((a.toNat ^^^ b.toNat : Nat) : Int)) h := h2_xor (m := 9223372036854775807) rfl ha ha2 hb hb2
theorem h2_xor_u8 (ha : 0 ≤ a) (ha2 : a ≤ 255) (hb : 0 ≤ b) (hb2 : b ≤ 255) : H2 P (gBin fXor) (.i .u8 a) (.i .u8 b) h N = N.go P (.i .u8 ((a.toNat ^^^ b.toNat : Nat) : Int)) h := h2_xor (m := 255) rfl ha ha2 hb hb2
theorem h2_xor_u16 (ha : 0 ≤ a) (ha2 : a ≤ 65535) (hb : 0 ≤ b) (hb2 : b ≤ 65535) : H2 P (gBin fXor) (.i .u16 a) (.i .u16 b) h N = N.go P (.i .u16 ((a.toNat ^^^ b.toNat : Nat) : Int)) h := h2_xor (m := 65535) rfl ha ha2 hb hb2
theorem h2_xor_u32 (ha : 0 ≤ a) (ha2 : a ≤ 4294967295) (hb : 0 ≤ b) (hb2 : b ≤ 4294967295) : H2 P (gBin fXor) (.i .u32 a) (.i .u32 b) h N = N.go P (.i .u32 ((a.toNat ^^^ b.toNat : Nat) : Int)) h := h2_xor (m := 4294967295) rfl ha ha2 hb hb2
theorem h2_xor_u64 (ha : 0 ≤ a) (ha2 : a ≤ 18446744073709551615) (hb : 0 ≤ b) (hb2 : b ≤ 18446744073709551615) : H2 P (gBin fXor) (.i .u64 a) (.i .u64 b) h N = N.go P (.i .u64 ((a.toNat ^^^ b.toNat : Nat) : Int)) h := h2_xor (m := 18446744073709551615) rfl ha ha2 hb hb2
theorem h2_ant_i64 (ha : 0 ≤ a) (ha2 : a ≤ 9223372036854775807) (hb : 0 ≤ b) (hb2 : b ≤ 9223372036854775807) : H2 P (gBin fAnt) (.i .i64 a) (.i .i64 b) h N = N.go P (.i .i64 ((a.toNat ^^^ (a.toNat &&& b.toNat) : Nat) : Int)) h := h2_ant (m := 9223372036854775807) rfl ha ha2 hb hb2
theorem h2_ant_u8 (ha : 0 ≤ a) (ha2 : a ≤ 255) (hb : 0 ≤ b) (hb2 : b ≤ 255) : H2 P (gBin fAnt) (.i .u8 a) (.i .u8 b) h N = N.go P (.i .u8 ((a.toNat ^^^ (a.toNat &&& b.toNat) : Nat) : Int)) h := h2_ant (m := 255) rfl ha ha2 hb hb2
theorem h2_ant_u16 (ha : 0 ≤ a) (ha2 : a ≤ 65535) (hb : 0 ≤ b) (hb2 : b ≤ 65535) : H2 P (gBin fAnt) (.i .u16 a) (.i .u16 b) h N = N.go P (.i .u16 ((a.toNat ^^^ (a.toNat &&& b.toNat) : Nat) : Int)) h := h2_ant (m := 65535) rfl ha ha2 hb hb2
theorem h2_ant_u32 (ha : 0 ≤ a) (ha2 : a ≤ 4294967295) (hb : 0 ≤ b) (hb2 : b ≤ 4294967295) : H2 P (gBin fAnt) (.i .u32 a) (.i .u32 b) h N = N.go P (.i .u32 ((a.toNat ^^^ (a.toNat &&& b.toNat) : Nat) : Int)) h := h2_ant (m := 4294967295) rfl ha ha2 hb hb2
theorem h2_ant_u64 (ha : 0 ≤ a) (ha2 : a ≤ 18446744073709551615) (hb : 0 ≤ b) (hb2 : b ≤ 18446744073709551615) : H2 P (gBin fAnt) (.i .u64 a) (.i .u64 b) h N = N.go P (.i .u64 ((a.toNat ^^^ (a.toNat &&& b.toNat) : Nat) : Int)) h := h2_ant (m := 18446744073709551615) rfl ha ha2 hb hb2
end
theorem cond_tV (x y : V) : cond true x y = x := rfl
theorem cond_fV (x y : V) : cond false x y = y := rfl
theorem map_cV (f : O → V) (o : O) (os : List O) : List.map f (o :: os) = f o :: List.map f os := rfl
theorem map_nV (f : O → V) : List.map f [] = [] := rfl
theorem len_cV (a : V) (l : List V) : (a :: l).length = l.length + 1 := rfl
theorem len_nV : ([] : List V).length = 0 := rfl
theorem take_0V (l : List V) : l.take 0 = [] := rfl
theorem take_sV (n : Nat) (a : V) (l : List V) : (a :: l).take (n + 1) = a :: l.take n := rfl
theorem drop_0V (l : List V) : l.drop 0 = l := rfl
theorem drop_sV (n : Nat) (a : V) (l : List V) : (a :: l).drop (n + 1) = l.drop n := rfl
theorem app_nV (l : List V) : [] ++ l = l := rfl
theorem app_cV (a : V) (l m : List V) : (a :: l) ++ m = a :: (l ++ m) := rfl
theorem getD_0V (a : V) (l : List V) (d : V) : (a :: l).getD 0 d = a := rfl
theorem getD_sV (n : Nat) (a : V) (l : List V) (d : V) : (a :: l).getD (n + 1) d = l.getD n d := by simp [List.getD]
theorem set_0V (a b : V) (l : List V) : (a :: l).set 0 b = b :: l := rfl
theorem set_sV (n : Nat) (a b : V) (l : List V) : (a :: l).set (n + 1) b = a :: l.set n b := rfl
theorem beq_bb (b : Bool) : (b == b) = true := by cases b <;> rfl
theorem bne_bb (b : Bool) : (b != b) = false := by cases b <;> rfl
def wlk := And.intro @wB_eq (And.intro @uB_eq (And.intro @wG_eq (And.intro @uG_eq (And.intro @oN_eq (And.intro @wo_nil (And.intro @do_nil (And.intro @wo_c (And.intro @wo_0 (And.intro @wo_g (And.intro @wo_g0 (And.intro @do_c (And.intro @do_0 (And.intro @do_g (And.intro @do_u (And.intro @do_u0 (And.intro @do_gu (And.intro @go_w (And.intro @go_w0 (And.intro @go_d (And.intro @go_d0 (And.intro @go_u (And.intro @go_u0 (And.intro @gd_tt (And.intro @gd_ff (And.intro @gd_tf (And.intro @gd_ft (And.intro @gd_tu (And.intro @unFloor_re (And.intro @or_move (And.intro @or_pick (And.intro @or_bin (And.intro @or_shift (And.intro @or_rem (And.intro @or_bool (And.intro @or_not (And.intro @or_neg (And.intro @or_conv (And.intro @or_ext (And.intro @or_lenS (And.intro @or_len (And.intro @or_min (And.intro @or_max (And.intro @or_field (And.intro @or_fieldA (And.intro @or_fieldAddr (And.intro @or_nilCheck (And.intro @or_idx (And.intro @or_idxArr (And.intro @or_sindex (And.intro @or_aindex (And.intro @or_concat (And.intro @or_scmp (And.intro @or_cmpS (And.intro @or_ss2 (And.intro @or_ss1 (And.intro @or_ssa (And.intro @or_moveS (And.intro @or_nil (And.intro @or_sliceArr (And.intro @or_load (And.intro @or_loadA (And.intro @or_b2s (And.intro @or_build (And.intro @or_call (And.intro @or_mkF (And.intro @or_callV (And.intro @clf_eq (And.intro @or_alloc (And.intro @or_box (And.intro @or_buildSlice (And.intro @or_store (And.intro @or_makeSlice (And.intro @or_append (And.intro @or_appendS (And.intro @or_copy (And.intro @or_copyS (And.intro @or_s2b (And.intro @or_slLo (And.intro @or_slHi (And.intro @or_slBo (And.intro @or_i2s (And.intro @or_sEq (And.intro @h2_add (And.intro @h2_sub (And.intro @h2_mul (And.intro @h2_lss (And.intro @h2_gtr (And.intro @h2_leq (And.intro @h2_geq (And.intro @h2_eql (And.intro @h2_neq (And.intro @h2_quo (And.intro @h2_rem (And.intro @h2_shl (And.intro @h2_shr (And.intro @h2_beq (And.intro @h2_bne (And.intro @h1_not (And.intro @h1_neg (And.intro @h1_conv (And.intro @h1_ext0 (And.intro @h1_ext1 (And.intro @h1_ext2 (And.intro @h1_ext3 (And.intro @h2_min (And.intro @h2_max (And.intro @h3_pick (And.intro @h1_field (And.intro @h1_fieldA (And.intro @h1_fieldAddr (And.intro @h1_nilCheck (And.intro @h2_idx (And.intro @ix_l (And.intro @h2_idxArr (And.intro @gLen_l0 (And.intro @gLen_l (And.intro @h1_lenS (And.intro @h2_sindex (And.intro @h2_aindex (And.intro @h2_cat (And.intro @h2_seq (And.intro @h2_cmpS (And.intro @h2_sne (And.intro @h2_slt (And.intro @h2_sge (And.intro @h2_sle (And.intro @h2_sgt (And.intro @h3_ss2 (And.intro @h2_ss1 (And.intro @h2_ssa (And.intro @h1_moveS (And.intro @h2_nilL0 (And.intro @h2_nilL1 (And.intro @h2_nilP0 (And.intro @h2_nilP1 (And.intro @ld_p (And.intro @la_p (And.intro @l1_re (And.intro @ln_re (And.intro @bs_re (And.intro @fl_n (And.intro @fl_s (And.intro @fl_c (And.intro @fp_i (And.intro @fp_b (And.intro @fp_sv (And.intro @fp_p (And.intro @fp_l (And.intro @fp_l0 (And.intro @fp_a (And.intro @bx_i (And.intro @bx_b (And.intro @bx_sv (And.intro @bx_a (And.intro @bx_p (And.intro @bx_l (And.intro @bx_l0 (And.intro @ms_i (And.intro @h2_slLo (And.intro @h2_slHi (And.intro @h2_sliceArr (And.intro @h1_i2s (And.intro @h2_sE (And.intro @h2_sW (And.intro @h2_sP (And.intro @h2_and_i64 (And.intro @h2_and_u8 (And.intro @h2_and_u16 (And.intro @h2_and_u32 (And.intro @h2_and_u64 (And.intro @h2_or_i64 (And.intro @h2_or_u8 (And.intro @h2_or_u16 (And.intro @h2_or_u32 (And.intro @h2_or_u64 (And.intro @h2_xor_i64 (And.intro @h2_xor_u8 (And.intro @h2_xor_u16 (And.intro @h2_xor_u32 (And.intro @h2_xor_u64 (And.intro @h2_ant_i64 (And.intro @h2_ant_u8 (And.intro @h2_ant_u16 (And.intro @h2_ant_u32 (And.intro @h2_ant_u64 (And.intro @cd_t (And.intro @cd_f (And.intro @fnk_n (And.intro @fnk_0 (And.intro @fnk_1 (And.intro @fnk_2 (And.intro @fnk_3 (And.intro @fnk_4 (And.intro @fnk_A0 (And.intro @fnk_A1 (And.intro @fnk_A2 (And.intro @one_0 (And.intro @one_1 (And.intro @one_2 (And.intro @one_3 (And.intro @sq_n (And.intro @sq_e (And.intro @sq_r (And.intro @lp_n (And.intro @lp_e (And.intro @lp_r (And.intro @Out_n (And.intro @Out_e (And.intro @Out_r (And.intro @oV_t (And.intro @oV_c (And.intro @wrap_i64c (And.intro @wrap_u8c (And.intro @wrap_u16c (And.intro @wrap_u32c (And.intro @wrap_u64c (And.intro @wrap_i64 (And.intro @wrap_u8 (And.intro @wrap_u16 (And.intro @wrap_u32 (And.intro @wrap_u64 (And.intro @wrap_i32 (And.intro @bits_i64 (And.intro @bits_u64 (And.intro @bits_u32 (And.intro @bits_u16 (And.intro @bits_u8 (And.intro @bits_i32 (And.intro @sv_nil (And.intro @sv_one (And.intro @map_cV (And.intro @map_nV (And.intro @cond_tV (And.intro @cond_fV (And.intro @Bool.not_true (And.intro @Bool.not_false (And.intro @Bool.not_not (And.intro @decide_true (And.intro @decide_false (And.intro @Int.ofNat_eq_natCast (And.intro @Int.cast_ofNat_Int (And.intro @and_self (And.intro @Int.toNat_natCast (And.intro @beq_bb (And.intro @bne_bb (And.intro @Bool.false_xor (And.intro @Bool.true_xor (And.intro @len_cV (And.intro @len_nV (And.intro @take_0V (And.intro @take_sV (And.intro @drop_0V (And.intro @drop_sV (And.intro @app_nV (And.intro @app_cV (And.intro @getD_0V (And.intro @getD_sV (And.intro @set_0V (And.intro @set_sV (And.intro @Nat.min_eq_left (And.intro @Nat.zero_add (And.intro @Nat.add_zero (And.intro @Nat.mul_one (@Nat.zero_mul))))))))))))))))))))))))))))))))))))))))))))))))))))))))))))))))))))))))))))))))))))))))))))))))))))))))))))))))))))))))))))))))))))))))))))))))))))))))))))))))))))))))))))))))))))))))))))))))))))))))))))))))))))))))))))))))))))))))))))))))))))))))))))))))))))))))
def hcn := And.intro @Bool.not_eq_true' (@Bool.not_eq_false')
def lnv := And.intro @List.length_append.{0} (And.intro @List.length_cons.{0} (And.intro @List.length_nil.{0} (And.intro @List.length_take.{0} (And.intro @List.length_drop.{0} (And.intro @List.length_map.{0, 0} (@List.length_set.{0}))))))
def hcl := And.intro @Int.not_lt (And.intro @Int.not_le (And.intro @Nat.not_lt (And.intro @Nat.not_le (And.intro @decide_eq_true_eq (And.intro @decide_eq_false_iff_not (And.intro @Bool.not_eq_true (And.intro @Bool.not_eq_false (And.intro @Bool.not_true (And.intro @Bool.not_false (And.intro @Bool.not_eq_eq_eq_not (@Decidable.not_not)))))))))))
/-- the next step of code, by its form -/
class St (p : Prop) (q : outParam Prop) : Prop where
  h : q → p
section
variable {P : Program} {nt : Nat} {t : F} {h : H} {K : X → F → H → Prop} {a b : CC} {l : List CO} {id : Nat} {o : O}
instance : St (Ok P nt (.seq a b) t h K) (Ok P nt a t h (Sq P nt b K)) := ⟨Ok.sq⟩
instance : St (Ok P nt (.block id a) t h K) (Ok P nt a t h (Out id K)) := ⟨Ok.block⟩
instance : St (Ok P nt (.region l) t h K) (WO P l t h (K .normal)) := ⟨Ok.rg⟩
instance : St (Ok P nt (.cond o a b) t h K) (CD (oV o t) (Ok P nt a t h K) (Ok P nt b t h K)) := ⟨Ok.cd⟩
instance : St (Ok P nt .skip t h K) (K .normal t h) := ⟨Ok.skip⟩
instance : St (Ok P nt (.exit id) t h K) (K (.exit id) t h) := ⟨Ok.exit⟩
instance : St (Ok P nt .ret t h K) (K .ret t h) := ⟨Ok.ret⟩
end
end Go.Ev

set_option maxRecDepth 1000000
set_option linter.all false
namespace Go.Proofs.Ythncpgkpkdolfaa
open Go Go.Ev
noncomputable abbrev s38_0 : CC := (CC.seq (CC.region [(wB 2 (doMove (O.c V.l0)))]) CC.ret)
noncomputable abbrev s38_1 : CC := (CC.cond (tm 4) s38_0 CC.skip)
noncomputable abbrev s38_2 : CC := (CC.seq (CC.region [(wB 3 (doMove (tm 0))), (wB 4 (doNil vLN Bool.false (tm 3) (O.c V.l0)))]) s38_1)
noncomputable abbrev s38_3 : CC := (CC.seq (CC.region [(wB 5 (doBuildSlice 49 0 [] [])), (wB 6 (doMove (tm 0))), (wB 7 (doAppend 49 3 (tm 5) (tm 6))), (wB 2 (doMove (tm 7)))]) CC.ret)
noncomputable abbrev s38_4 : CC := (CC.seq s38_2 s38_3)
noncomputable abbrev b38 : CC := (CC.seq (CC.region [(wB 2 (doMove (O.c V.l0)))]) s38_4)
theorem c38 : compFn Try.prog 38 = ⟨8, b38, [(Rs.tmp (slOf 2))]⟩ := by kernel_rfl
noncomputable abbrev b39 : CC := (CC.region [(wB 4 (doMove (tm 0))), (wB 5 (doMove (tm 0))), (wB 6 (doLen (tm 5))), (wB 7 (doMove (tm 1))), (wB 8 (doCall 51 [(tm 4), (tm 6), (tm 7)]))])
theorem c39 : compFn Try.prog 39 = ⟨9, b39, []⟩ := by kernel_rfl
noncomputable abbrev s51_0 : CC := (CC.cond (tm 13) CC.skip (CC.exit 0))
noncomputable abbrev s51_1 : CC := (CC.seq (CC.region [(wB 11 (doMove (tm 8))), (wB 12 (doMove (tm 1))), (wB 13 (bin2 fLeq (tm 11) (tm 12)))]) s51_0)
noncomputable abbrev s51_2 : CC := (CC.region [(wB 20 (doMove (tm 8))), (wB 21 (doMove (tm 6))), (wB 22 (bin2 fAdd (tm 20) (tm 21))), (wB 8 (doMove (tm 22)))])
noncomputable abbrev s51_3 : CC := (CC.seq (CC.region [(wB 19 (doMove (tm 8))), (wB 7 (doMove (tm 19)))]) s51_2)
noncomputable abbrev s51_4 : CC := (CC.seq (CC.region [(wB 14 (doMove (tm 0))), (wB 15 (doMove (tm 7))), (wB 16 (doMove (tm 8))), (wB 17 (doMove (tm 2))), (wB 18 (doCall 57 [(tm 14), (tm 15), (tm 16), (tm 17)]))]) s51_3)
noncomputable abbrev s51_5 : CC := (CC.block 1 s51_4)
noncomputable abbrev l51_0 : CC := (CC.seq s51_1 s51_5)
noncomputable abbrev s51_6 : CC := (CC.loop l51_0)
noncomputable abbrev s51_7 : CC := (CC.block 0 s51_6)
noncomputable abbrev s51_8 : CC := (CC.cond (tm 30) CC.skip (CC.exit 2))
noncomputable abbrev s51_9 : CC := (CC.seq (CC.region [(wB 28 (doMove (tm 6))), (wB 29 (doMove (tm 1))), (wB 30 (bin2 fLss (tm 28) (tm 29)))]) s51_8)
noncomputable abbrev s51_10 : CC := (CC.cond (tm 35) CC.skip (CC.exit 4))
noncomputable abbrev s51_11 : CC := (CC.seq (CC.region [(wB 33 (doMove (tm 8))), (wB 34 (doMove (tm 1))), (wB 35 (bin2 fLeq (tm 33) (tm 34)))]) s51_10)
noncomputable abbrev s51_12 : CC := (CC.region [(wB 45 (doMove (tm 8))), (wB 46 (doMove (tm 6))), (wB 47 (bin2 fMul (oN 2) (tm 46))), (wB 48 (bin2 fAdd (tm 45) (tm 47))), (wB 8 (doMove (tm 48)))])
noncomputable abbrev s51_13 : CC := (CC.seq (CC.region [(wB 44 (doMove (tm 8))), (wB 7 (doMove (tm 44)))]) s51_12)
noncomputable abbrev s51_14 : CC := (CC.seq (CC.region [(wB 36 (doMove (tm 0))), (wB 37 (doMove (tm 7))), (wB 38 (doMove (tm 7))), (wB 39 (doMove (tm 6))), (wB 40 (bin2 fAdd (tm 38) (tm 39))), (wB 41 (doMove (tm 8))), (wB 42 (doMove (tm 2))), (wB 43 (doCall 58 [(tm 36), (tm 37), (tm 40), (tm 41), (tm 42)]))]) s51_13)
noncomputable abbrev s51_15 : CC := (CC.block 5 s51_14)
noncomputable abbrev l51_1 : CC := (CC.seq s51_11 s51_15)
noncomputable abbrev s51_16 : CC := (CC.loop l51_1)
noncomputable abbrev s51_17 : CC := (CC.block 4 s51_16)
noncomputable abbrev s51_18 : CC := (CC.region [(wB 55 (doMove (tm 0))), (wB 56 (doMove (tm 7))), (wB 57 (doMove (tm 9))), (wB 58 (doMove (tm 1))), (wB 59 (doMove (tm 2))), (wB 60 (doCall 58 [(tm 55), (tm 56), (tm 57), (tm 58), (tm 59)]))])
noncomputable abbrev s51_19 : CC := (CC.cond (tm 54) s51_18 CC.skip)
noncomputable abbrev s51_20 : CC := (CC.seq (CC.region [(wB 52 (doMove (tm 9))), (wB 53 (doMove (tm 1))), (wB 54 (bin2 fLss (tm 52) (tm 53)))]) s51_19)
noncomputable abbrev s51_21 : CC := (CC.seq (CC.region [(wB 49 (doMove (tm 7))), (wB 50 (doMove (tm 6))), (wB 51 (bin2 fAdd (tm 49) (tm 50))), (wB 9 (doMove (tm 51)))]) s51_20)
noncomputable abbrev s51_22 : CC := (CC.region [(wB 61 (doMove (tm 6))), (wB 62 (bin2 fMul (tm 61) (oN 2))), (wB 6 (doMove (tm 62)))])
noncomputable abbrev s51_23 : CC := (CC.seq s51_21 s51_22)
noncomputable abbrev s51_24 : CC := (CC.seq s51_17 s51_23)
noncomputable abbrev s51_25 : CC := (CC.seq (CC.region [(wB 31 (doMove (tm 6))), (wB 32 (bin2 fMul (oN 2) (tm 31))), (wB 7 (doMove (oN 0))), (wB 8 (doMove (tm 32)))]) s51_24)
noncomputable abbrev s51_26 : CC := (CC.block 3 s51_25)
noncomputable abbrev l51_2 : CC := (CC.seq s51_9 s51_26)
noncomputable abbrev s51_27 : CC := (CC.loop l51_2)
noncomputable abbrev s51_28 : CC := (CC.block 2 s51_27)
noncomputable abbrev s51_29 : CC := (CC.seq (CC.region [(wB 23 (doMove (tm 0))), (wB 24 (doMove (tm 7))), (wB 25 (doMove (tm 1))), (wB 26 (doMove (tm 2))), (wB 27 (doCall 57 [(tm 23), (tm 24), (tm 25), (tm 26)]))]) s51_28)
noncomputable abbrev s51_30 : CC := (CC.seq s51_7 s51_29)
noncomputable abbrev s51_31 : CC := (CC.seq (CC.region [(wB 10 (doMove (tm 6))), (wB 7 (doMove (oN 0))), (wB 8 (doMove (tm 10)))]) s51_30)
noncomputable abbrev b51 : CC := (CC.seq (CC.region [(wB 6 (doMove (oN 20)))]) s51_31)
theorem c51 : compFn Try.prog 51 = ⟨63, b51, []⟩ := by kernel_rfl
noncomputable abbrev s57_0 : CC := (CC.cond (tm 14) CC.skip (CC.exit 0))
noncomputable abbrev s57_1 : CC := (CC.seq (CC.region [(wB 12 (doMove (tm 8))), (wB 13 (doMove (tm 2))), (wB 14 (bin2 fLss (tm 12) (tm 13)))]) s57_0)
noncomputable abbrev s57_2 : CC := (CC.cond (tm 34) CC.skip (CC.exit 2))
noncomputable abbrev s57_3 : CC := (CC.seq (CC.draws [(uB 18 (doMove (tm 9))), (uB 19 (doMove (tm 1))), (uB 20 (bin2 fGtr (tm 18) (tm 19))), (uB 21 (doMove (tm 20))), (uG 21 true 22 (doMove (tm 3))), (uG 21 true 23 (doMove (tm 0))), (uG 21 true 24 (doMove (tm 9))), (uG 21 true 25 (doIndexAddr 3 (tm 23) (tm 24))), (uG 21 true 26 (doLoadA 3 (tm 25))), (uG 21 true 27 (doMove (tm 0))), (uG 21 true 28 (doMove (tm 9))), (uG 21 true 29 (bin2 fSub (tm 28) (oN 1))), (uG 21 true 30 (doIndexAddr 3 (tm 27) (tm 29))), (uG 21 true 31 (doLoadA 3 (tm 30))), (wG 21 true 32 (doCallV (tm 22) [(tm 26), (tm 31)])), (uG 21 true 33 (bin2 fLss (tm 32) (oN 0))), (uB 34 (doPick (tm 21) (tm 33) (O.c (V.b Bool.false))))]) s57_2)
noncomputable abbrev s57_4 : CC := (CC.draws [(uB 37 (doMove (tm 0))), (uB 38 (doMove (tm 9))), (uB 39 (doMove (tm 0))), (uB 40 (doMove (tm 9))), (uB 41 (bin2 fSub (tm 40) (oN 1))), (uB 42 (doMove (tm 0))), (uB 43 (doMove (tm 9))), (uB 44 (bin2 fSub (tm 43) (oN 1))), (uB 45 (doIndexAddr 3 (tm 42) (tm 44))), (uB 46 (doLoadA 3 (tm 45))), (uB 47 (doMove (tm 0))), (uB 48 (doMove (tm 9))), (uB 49 (doIndexAddr 3 (tm 47) (tm 48))), (uB 50 (doLoadA 3 (tm 49))), (uB 51 (doIndexAddr 3 (tm 37) (tm 38))), (CO.mk G.none D.none Bool.true (CR.mk (doStore 3 (tm 51) (tm 46)))), (uB 52 (doIndexAddr 3 (tm 39) (tm 41))), (CO.mk G.none D.none Bool.true (CR.mk (doStore 3 (tm 52) (tm 50))))])
noncomputable abbrev s57_5 : CC := (CC.block 3 s57_4)
noncomputable abbrev s57_6 : CC := (CC.region [(wB 35 (doMove (tm 9))), (wB 36 (bin2 fSub (tm 35) (oN 1))), (wB 9 (doMove (tm 36)))])
noncomputable abbrev s57_7 : CC := (CC.seq s57_5 s57_6)
noncomputable abbrev l57_0 : CC := (CC.seq s57_3 s57_7)
noncomputable abbrev s57_8 : CC := (CC.loop l57_0)
noncomputable abbrev s57_9 : CC := (CC.block 2 s57_8)
noncomputable abbrev s57_10 : CC := (CC.seq (CC.region [(wB 17 (doMove (tm 8))), (wB 9 (doMove (tm 17)))]) s57_9)
noncomputable abbrev s57_11 : CC := (CC.block 1 s57_10)
noncomputable abbrev s57_12 : CC := (CC.region [(wB 15 (doMove (tm 8))), (wB 16 (bin2 fAdd (tm 15) (oN 1))), (wB 8 (doMove (tm 16)))])
noncomputable abbrev s57_13 : CC := (CC.seq s57_11 s57_12)
noncomputable abbrev l57_1 : CC := (CC.seq s57_1 s57_13)
noncomputable abbrev s57_14 : CC := (CC.loop l57_1)
noncomputable abbrev s57_15 : CC := (CC.block 0 s57_14)
noncomputable abbrev b57 : CC := (CC.seq (CC.region [(wB 10 (doMove (tm 1))), (wB 11 (bin2 fAdd (tm 10) (oN 1))), (wB 8 (doMove (tm 11)))]) s57_15)
theorem c57 : compFn Try.prog 57 = ⟨53, b57, []⟩ := by kernel_rfl
noncomputable abbrev s58_0 : CC := (CC.cond (tm 33) CC.skip (CC.exit 0))
noncomputable abbrev s58_1 : CC := (CC.seq (CC.region [(wB 31 (doMove (tm 10))), (wB 32 (doMove (tm 11))), (wB 33 (bin2 fLss (tm 31) (tm 32)))]) s58_0)
noncomputable abbrev s58_2 : CC := (CC.region [(wB 51 (doMove (tm 12))), (wB 52 (bin2 fAdd (tm 51) (oN 1))), (wB 10 (doMove (tm 52)))])
noncomputable abbrev s58_3 : CC := (CC.region [(wB 53 (doMove (tm 12))), (wB 11 (doMove (tm 53)))])
noncomputable abbrev s58_4 : CC := (CC.cond (tm 50) s58_2 s58_3)
noncomputable abbrev s58_5 : CC := (CC.seq (CC.draws [(uB 40 (doMove (tm 4))), (uB 41 (doMove (tm 0))), (uB 42 (doMove (tm 12))), (uB 43 (doIndexAddr 3 (tm 41) (tm 42))), (uB 44 (doLoadA 3 (tm 43))), (uB 45 (doMove (tm 0))), (uB 46 (doMove (tm 1))), (uB 47 (doIndexAddr 3 (tm 45) (tm 46))), (uB 48 (doLoadA 3 (tm 47))), (wB 49 (doCallV (tm 40) [(tm 44), (tm 48)])), (uB 50 (bin2 fLss (tm 49) (oN 0)))]) s58_4)
noncomputable abbrev s58_6 : CC := (CC.seq (CC.region [(wB 34 (doMove (tm 10))), (wB 35 (doMove (tm 11))), (wB 36 (bin2 fAdd (tm 34) (tm 35))), (wB 37 (doConv IntKind.u64 (tm 36))), (wB 38 (doShift shrF (tm 37) (O.c (V.i IntKind.u64 (Int.ofNat 1))))), (wB 39 (doConv IntKind.i64 (tm 38))), (wB 12 (doMove (tm 39)))]) s58_5)
noncomputable abbrev s58_7 : CC := (CC.block 1 s58_6)
noncomputable abbrev l58_0 : CC := (CC.seq s58_1 s58_7)
noncomputable abbrev s58_8 : CC := (CC.loop l58_0)
noncomputable abbrev s58_9 : CC := (CC.block 0 s58_8)
noncomputable abbrev s58_10 : CC := (CC.cond (tm 58) CC.skip (CC.exit 2))
noncomputable abbrev s58_11 : CC := (CC.seq (CC.region [(wB 55 (doMove (tm 13))), (wB 56 (doMove (tm 10))), (wB 57 (bin2 fSub (tm 56) (oN 1))), (wB 58 (bin2 fLss (tm 55) (tm 57)))]) s58_10)
noncomputable abbrev s58_12 : CC := (CC.draws [(uB 61 (doMove (tm 0))), (uB 62 (doMove (tm 13))), (uB 63 (doMove (tm 0))), (uB 64 (doMove (tm 13))), (uB 65 (bin2 fAdd (tm 64) (oN 1))), (uB 66 (doMove (tm 0))), (uB 67 (doMove (tm 13))), (uB 68 (bin2 fAdd (tm 67) (oN 1))), (uB 69 (doIndexAddr 3 (tm 66) (tm 68))), (uB 70 (doLoadA 3 (tm 69))), (uB 71 (doMove (tm 0))), (uB 72 (doMove (tm 13))), (uB 73 (doIndexAddr 3 (tm 71) (tm 72))), (uB 74 (doLoadA 3 (tm 73))), (uB 75 (doIndexAddr 3 (tm 61) (tm 62))), (CO.mk G.none D.none Bool.true (CR.mk (doStore 3 (tm 75) (tm 70)))), (uB 76 (doIndexAddr 3 (tm 63) (tm 65))), (CO.mk G.none D.none Bool.true (CR.mk (doStore 3 (tm 76) (tm 74))))])
noncomputable abbrev s58_13 : CC := (CC.block 3 s58_12)
noncomputable abbrev s58_14 : CC := (CC.region [(wB 59 (doMove (tm 13))), (wB 60 (bin2 fAdd (tm 59) (oN 1))), (wB 13 (doMove (tm 60)))])
noncomputable abbrev s58_15 : CC := (CC.seq s58_13 s58_14)
noncomputable abbrev l58_1 : CC := (CC.seq s58_11 s58_15)
noncomputable abbrev s58_16 : CC := (CC.loop l58_1)
noncomputable abbrev s58_17 : CC := (CC.block 2 s58_16)
noncomputable abbrev s58_18 : CC := (CC.seq (CC.region [(wB 54 (doMove (tm 1))), (wB 13 (doMove (tm 54)))]) s58_17)
noncomputable abbrev s58_19 : CC := (CC.seq s58_18 CC.ret)
noncomputable abbrev s58_20 : CC := (CC.seq s58_9 s58_19)
noncomputable abbrev s58_21 : CC := (CC.seq (CC.region [(wB 30 (doMove (tm 3))), (wB 11 (doMove (tm 30)))]) s58_20)
noncomputable abbrev s58_22 : CC := (CC.seq (CC.region [(wB 29 (doMove (tm 2))), (wB 10 (doMove (tm 29)))]) s58_21)
noncomputable abbrev s58_23 : CC := (CC.cond (tm 28) s58_22 CC.skip)
noncomputable abbrev s58_24 : CC := (CC.seq (CC.region [(wB 25 (doMove (tm 2))), (wB 26 (doMove (tm 1))), (wB 27 (bin2 fSub (tm 25) (tm 26))), (wB 28 (bin2 fEql (tm 27) (oN 1)))]) s58_23)
noncomputable abbrev s58_25 : CC := (CC.cond (tm 85) CC.skip (CC.exit 4))
noncomputable abbrev s58_26 : CC := (CC.seq (CC.region [(wB 83 (doMove (tm 14))), (wB 84 (doMove (tm 15))), (wB 85 (bin2 fLss (tm 83) (tm 84)))]) s58_25)
noncomputable abbrev s58_27 : CC := (CC.region [(wB 104 (doMove (tm 16))), (wB 105 (bin2 fAdd (tm 104) (oN 1))), (wB 14 (doMove (tm 105)))])
noncomputable abbrev s58_28 : CC := (CC.region [(wB 106 (doMove (tm 16))), (wB 15 (doMove (tm 106)))])
noncomputable abbrev s58_29 : CC := (CC.cond (tm 103) s58_27 s58_28)
noncomputable abbrev s58_30 : CC := (CC.seq (CC.draws [(uB 92 (doMove (tm 4))), (uB 93 (doMove (tm 0))), (uB 94 (doMove (tm 2))), (uB 95 (doIndexAddr 3 (tm 93) (tm 94))), (uB 96 (doLoadA 3 (tm 95))), (uB 97 (doMove (tm 0))), (uB 98 (doMove (tm 16))), (uB 99 (doIndexAddr 3 (tm 97) (tm 98))), (uB 100 (doLoadA 3 (tm 99))), (wB 101 (doCallV (tm 92) [(tm 96), (tm 100)])), (uB 102 (bin2 fLss (tm 101) (oN 0))), (uB 103 (doNot (tm 102)))]) s58_29)
noncomputable abbrev s58_31 : CC := (CC.seq (CC.region [(wB 86 (doMove (tm 14))), (wB 87 (doMove (tm 15))), (wB 88 (bin2 fAdd (tm 86) (tm 87))), (wB 89 (doConv IntKind.u64 (tm 88))), (wB 90 (doShift shrF (tm 89) (O.c (V.i IntKind.u64 (Int.ofNat 1))))), (wB 91 (doConv IntKind.i64 (tm 90))), (wB 16 (doMove (tm 91)))]) s58_30)
noncomputable abbrev s58_32 : CC := (CC.block 5 s58_31)
noncomputable abbrev l58_2 : CC := (CC.seq s58_26 s58_32)
noncomputable abbrev s58_33 : CC := (CC.loop l58_2)
noncomputable abbrev s58_34 : CC := (CC.block 4 s58_33)
noncomputable abbrev s58_35 : CC := (CC.cond (tm 110) CC.skip (CC.exit 6))
noncomputable abbrev s58_36 : CC := (CC.seq (CC.region [(wB 108 (doMove (tm 17))), (wB 109 (doMove (tm 14))), (wB 110 (bin2 fGtr (tm 108) (tm 109)))]) s58_35)
noncomputable abbrev s58_37 : CC := (CC.draws [(uB 113 (doMove (tm 0))), (uB 114 (doMove (tm 17))), (uB 115 (doMove (tm 0))), (uB 116 (doMove (tm 17))), (uB 117 (bin2 fSub (tm 116) (oN 1))), (uB 118 (doMove (tm 0))), (uB 119 (doMove (tm 17))), (uB 120 (bin2 fSub (tm 119) (oN 1))), (uB 121 (doIndexAddr 3 (tm 118) (tm 120))), (uB 122 (doLoadA 3 (tm 121))), (uB 123 (doMove (tm 0))), (uB 124 (doMove (tm 17))), (uB 125 (doIndexAddr 3 (tm 123) (tm 124))), (uB 126 (doLoadA 3 (tm 125))), (uB 127 (doIndexAddr 3 (tm 113) (tm 114))), (CO.mk G.none D.none Bool.true (CR.mk (doStore 3 (tm 127) (tm 122)))), (uB 128 (doIndexAddr 3 (tm 115) (tm 117))), (CO.mk G.none D.none Bool.true (CR.mk (doStore 3 (tm 128) (tm 126))))])
noncomputable abbrev s58_38 : CC := (CC.block 7 s58_37)
noncomputable abbrev s58_39 : CC := (CC.region [(wB 111 (doMove (tm 17))), (wB 112 (bin2 fSub (tm 111) (oN 1))), (wB 17 (doMove (tm 112)))])
noncomputable abbrev s58_40 : CC := (CC.seq s58_38 s58_39)
noncomputable abbrev l58_3 : CC := (CC.seq s58_36 s58_40)
noncomputable abbrev s58_41 : CC := (CC.loop l58_3)
noncomputable abbrev s58_42 : CC := (CC.block 6 s58_41)
noncomputable abbrev s58_43 : CC := (CC.seq (CC.region [(wB 107 (doMove (tm 2))), (wB 17 (doMove (tm 107)))]) s58_42)
noncomputable abbrev s58_44 : CC := (CC.seq s58_43 CC.ret)
noncomputable abbrev s58_45 : CC := (CC.seq s58_34 s58_44)
noncomputable abbrev s58_46 : CC := (CC.seq (CC.region [(wB 82 (doMove (tm 2))), (wB 15 (doMove (tm 82)))]) s58_45)
noncomputable abbrev s58_47 : CC := (CC.seq (CC.region [(wB 81 (doMove (tm 1))), (wB 14 (doMove (tm 81)))]) s58_46)
noncomputable abbrev s58_48 : CC := (CC.cond (tm 80) s58_47 CC.skip)
noncomputable abbrev s58_49 : CC := (CC.seq (CC.region [(wB 77 (doMove (tm 3))), (wB 78 (doMove (tm 2))), (wB 79 (bin2 fSub (tm 77) (tm 78))), (wB 80 (bin2 fEql (tm 79) (oN 1)))]) s58_48)
noncomputable abbrev s58_50 : CC := (CC.region [(wB 144 (doMove (tm 18))), (wB 21 (doMove (tm 144)))])
noncomputable abbrev s58_51 : CC := (CC.seq (CC.region [(wB 141 (doMove (tm 19))), (wB 142 (doMove (tm 3))), (wB 143 (bin2 fSub (tm 141) (tm 142))), (wB 20 (doMove (tm 143)))]) s58_50)
noncomputable abbrev s58_52 : CC := (CC.region [(wB 146 (doMove (tm 2))), (wB 21 (doMove (tm 146)))])
noncomputable abbrev s58_53 : CC := (CC.seq (CC.region [(wB 145 (doMove (tm 1))), (wB 20 (doMove (tm 145)))]) s58_52)
noncomputable abbrev s58_54 : CC := (CC.cond (tm 140) s58_51 s58_53)
noncomputable abbrev s58_55 : CC := (CC.seq (CC.region [(wB 138 (doMove (tm 2))), (wB 139 (doMove (tm 18))), (wB 140 (bin2 fGtr (tm 138) (tm 139)))]) s58_54)
noncomputable abbrev s58_56 : CC := (CC.cond (tm 151) CC.skip (CC.exit 8))
noncomputable abbrev s58_57 : CC := (CC.seq (CC.region [(wB 149 (doMove (tm 20))), (wB 150 (doMove (tm 21))), (wB 151 (bin2 fLss (tm 149) (tm 150)))]) s58_56)
noncomputable abbrev s58_58 : CC := (CC.region [(wB 172 (doMove (tm 23))), (wB 173 (bin2 fAdd (tm 172) (oN 1))), (wB 20 (doMove (tm 173)))])
noncomputable abbrev s58_59 : CC := (CC.region [(wB 174 (doMove (tm 23))), (wB 21 (doMove (tm 174)))])
noncomputable abbrev s58_60 : CC := (CC.cond (tm 171) s58_58 s58_59)
noncomputable abbrev s58_61 : CC := (CC.seq (CC.draws [(uB 158 (doMove (tm 4))), (uB 159 (doMove (tm 0))), (uB 160 (doMove (tm 22))), (uB 161 (doMove (tm 23))), (uB 162 (bin2 fSub (tm 160) (tm 161))), (uB 163 (doIndexAddr 3 (tm 159) (tm 162))), (uB 164 (doLoadA 3 (tm 163))), (uB 165 (doMove (tm 0))), (uB 166 (doMove (tm 23))), (uB 167 (doIndexAddr 3 (tm 165) (tm 166))), (uB 168 (doLoadA 3 (tm 167))), (wB 169 (doCallV (tm 158) [(tm 164), (tm 168)])), (uB 170 (bin2 fLss (tm 169) (oN 0))), (uB 171 (doNot (tm 170)))]) s58_60)
noncomputable abbrev s58_62 : CC := (CC.seq (CC.region [(wB 152 (doMove (tm 20))), (wB 153 (doMove (tm 21))), (wB 154 (bin2 fAdd (tm 152) (tm 153))), (wB 155 (doConv IntKind.u64 (tm 154))), (wB 156 (doShift shrF (tm 155) (O.c (V.i IntKind.u64 (Int.ofNat 1))))), (wB 157 (doConv IntKind.i64 (tm 156))), (wB 23 (doMove (tm 157)))]) s58_61)
noncomputable abbrev s58_63 : CC := (CC.block 9 s58_62)
noncomputable abbrev l58_4 : CC := (CC.seq s58_57 s58_63)
noncomputable abbrev s58_64 : CC := (CC.loop l58_4)
noncomputable abbrev s58_65 : CC := (CC.block 8 s58_64)
noncomputable abbrev s58_66 : CC := (CC.region [(wB 186 (doMove (tm 0))), (wB 187 (doMove (tm 20))), (wB 188 (doMove (tm 2))), (wB 189 (doMove (tm 24))), (wB 190 (doMove (tm 4))), (wB 191 (doCall 60 [(tm 186), (tm 187), (tm 188), (tm 189), (tm 190)]))])
noncomputable abbrev s58_67 : CC := (CC.cond (tm 185) s58_66 CC.skip)
noncomputable abbrev s58_68 : CC := (CC.seq (CC.region [(wB 178 (doMove (tm 20))), (wB 179 (doMove (tm 2))), (wB 180 (bin2 fLss (tm 178) (tm 179))), (wB 181 (doMove (tm 180))), (wG 181 true 182 (doMove (tm 2))), (wG 181 true 183 (doMove (tm 24))), (wG 181 true 184 (bin2 fLss (tm 182) (tm 183))), (wB 185 (doPick (tm 181) (tm 184) (O.c (V.b Bool.false))))]) s58_67)
noncomputable abbrev s58_69 : CC := (CC.region [(wB 200 (doMove (tm 0))), (wB 201 (doMove (tm 1))), (wB 202 (doMove (tm 20))), (wB 203 (doMove (tm 18))), (wB 204 (doMove (tm 4))), (wB 205 (doCall 58 [(tm 200), (tm 201), (tm 202), (tm 203), (tm 204)]))])
noncomputable abbrev s58_70 : CC := (CC.cond (tm 199) s58_69 CC.skip)
noncomputable abbrev s58_71 : CC := (CC.seq (CC.region [(wB 192 (doMove (tm 1))), (wB 193 (doMove (tm 20))), (wB 194 (bin2 fLss (tm 192) (tm 193))), (wB 195 (doMove (tm 194))), (wG 195 true 196 (doMove (tm 20))), (wG 195 true 197 (doMove (tm 18))), (wG 195 true 198 (bin2 fLss (tm 196) (tm 197))), (wB 199 (doPick (tm 195) (tm 198) (O.c (V.b Bool.false))))]) s58_70)
noncomputable abbrev s58_72 : CC := (CC.region [(wB 214 (doMove (tm 0))), (wB 215 (doMove (tm 18))), (wB 216 (doMove (tm 24))), (wB 217 (doMove (tm 3))), (wB 218 (doMove (tm 4))), (wB 219 (doCall 58 [(tm 214), (tm 215), (tm 216), (tm 217), (tm 218)]))])
noncomputable abbrev s58_73 : CC := (CC.cond (tm 213) s58_72 CC.skip)
noncomputable abbrev s58_74 : CC := (CC.seq (CC.region [(wB 206 (doMove (tm 18))), (wB 207 (doMove (tm 24))), (wB 208 (bin2 fLss (tm 206) (tm 207))), (wB 209 (doMove (tm 208))), (wG 209 true 210 (doMove (tm 24))), (wG 209 true 211 (doMove (tm 3))), (wG 209 true 212 (bin2 fLss (tm 210) (tm 211))), (wB 213 (doPick (tm 209) (tm 212) (O.c (V.b Bool.false))))]) s58_73)
noncomputable abbrev s58_75 : CC := (CC.seq s58_71 s58_74)
noncomputable abbrev s58_76 : CC := (CC.seq s58_68 s58_75)
noncomputable abbrev s58_77 : CC := (CC.seq (CC.region [(wB 175 (doMove (tm 19))), (wB 176 (doMove (tm 20))), (wB 177 (bin2 fSub (tm 175) (tm 176))), (wB 24 (doMove (tm 177)))]) s58_76)
noncomputable abbrev s58_78 : CC := (CC.seq s58_65 s58_77)
noncomputable abbrev s58_79 : CC := (CC.seq (CC.region [(wB 147 (doMove (tm 19))), (wB 148 (bin2 fSub (tm 147) (oN 1))), (wB 22 (doMove (tm 148)))]) s58_78)
noncomputable abbrev s58_80 : CC := (CC.seq s58_55 s58_79)
noncomputable abbrev s58_81 : CC := (CC.seq (CC.region [(wB 20 (doMove (oN 0))), (wB 21 (doMove (oN 0)))]) s58_80)
noncomputable abbrev s58_82 : CC := (CC.seq (CC.region [(wB 135 (doMove (tm 18))), (wB 136 (doMove (tm 2))), (wB 137 (bin2 fAdd (tm 135) (tm 136))), (wB 19 (doMove (tm 137)))]) s58_81)
noncomputable abbrev s58_83 : CC := (CC.seq (CC.region [(wB 129 (doMove (tm 1))), (wB 130 (doMove (tm 3))), (wB 131 (bin2 fAdd (tm 129) (tm 130))), (wB 132 (doConv IntKind.u64 (tm 131))), (wB 133 (doShift shrF (tm 132) (O.c (V.i IntKind.u64 (Int.ofNat 1))))), (wB 134 (doConv IntKind.i64 (tm 133))), (wB 18 (doMove (tm 134)))]) s58_82)
noncomputable abbrev s58_84 : CC := (CC.seq s58_49 s58_83)
noncomputable abbrev b58 : CC := (CC.seq s58_24 s58_84)
theorem c58 : compFn Try.prog 58 = ⟨220, b58, []⟩ := by kernel_rfl
noncomputable abbrev s60_0 : CC := (CC.cond (tm 20) CC.skip (CC.exit 0))
noncomputable abbrev s60_1 : CC := (CC.seq (CC.region [(wB 18 (doMove (tm 10))), (wB 19 (doMove (tm 11))), (wB 20 (bin2 fNeq (tm 18) (tm 19)))]) s60_0)
noncomputable abbrev s60_2 : CC := (CC.region [(wB 32 (doMove (tm 10))), (wB 33 (doMove (tm 11))), (wB 34 (bin2 fSub (tm 32) (tm 33))), (wB 10 (doMove (tm 34)))])
noncomputable abbrev s60_3 : CC := (CC.seq (CC.region [(wB 24 (doMove (tm 0))), (wB 25 (doMove (tm 2))), (wB 26 (doMove (tm 10))), (wB 27 (bin2 fSub (tm 25) (tm 26))), (wB 28 (doMove (tm 2))), (wB 29 (doMove (tm 11))), (wB 30 (doMove (tm 4))), (wB 31 (doCall 62 [(tm 24), (tm 27), (tm 28), (tm 29), (tm 30)]))]) s60_2)
noncomputable abbrev s60_4 : CC := (CC.region [(wB 47 (doMove (tm 11))), (wB 48 (doMove (tm 10))), (wB 49 (bin2 fSub (tm 47) (tm 48))), (wB 11 (doMove (tm 49)))])
noncomputable abbrev s60_5 : CC := (CC.seq (CC.region [(wB 35 (doMove (tm 0))), (wB 36 (doMove (tm 2))), (wB 37 (doMove (tm 10))), (wB 38 (bin2 fSub (tm 36) (tm 37))), (wB 39 (doMove (tm 2))), (wB 40 (doMove (tm 11))), (wB 41 (bin2 fAdd (tm 39) (tm 40))), (wB 42 (doMove (tm 10))), (wB 43 (bin2 fSub (tm 41) (tm 42))), (wB 44 (doMove (tm 10))), (wB 45 (doMove (tm 4))), (wB 46 (doCall 62 [(tm 35), (tm 38), (tm 43), (tm 44), (tm 45)]))]) s60_4)
noncomputable abbrev s60_6 : CC := (CC.cond (tm 23) s60_3 s60_5)
noncomputable abbrev s60_7 : CC := (CC.seq (CC.region [(wB 21 (doMove (tm 10))), (wB 22 (doMove (tm 11))), (wB 23 (bin2 fGtr (tm 21) (tm 22)))]) s60_6)
noncomputable abbrev s60_8 : CC := (CC.block 1 s60_7)
noncomputable abbrev l60_0 : CC := (CC.seq s60_1 s60_8)
noncomputable abbrev s60_9 : CC := (CC.loop l60_0)
noncomputable abbrev s60_10 : CC := (CC.block 0 s60_9)
noncomputable abbrev s60_11 : CC := (CC.region [(wB 50 (doMove (tm 0))), (wB 51 (doMove (tm 2))), (wB 52 (doMove (tm 10))), (wB 53 (bin2 fSub (tm 51) (tm 52))), (wB 54 (doMove (tm 2))), (wB 55 (doMove (tm 10))), (wB 56 (doMove (tm 4))), (wB 57 (doCall 62 [(tm 50), (tm 53), (tm 54), (tm 55), (tm 56)]))])
noncomputable abbrev s60_12 : CC := (CC.seq s60_10 s60_11)
noncomputable abbrev s60_13 : CC := (CC.seq (CC.region [(wB 15 (doMove (tm 3))), (wB 16 (doMove (tm 2))), (wB 17 (bin2 fSub (tm 15) (tm 16))), (wB 11 (doMove (tm 17)))]) s60_12)
noncomputable abbrev b60 : CC := (CC.seq (CC.region [(wB 12 (doMove (tm 2))), (wB 13 (doMove (tm 1))), (wB 14 (bin2 fSub (tm 12) (tm 13))), (wB 10 (doMove (tm 14)))]) s60_13)
theorem c60 : compFn Try.prog 60 = ⟨58, b60, []⟩ := by kernel_rfl
noncomputable abbrev s62_0 : CC := (CC.cond (tm 13) CC.skip (CC.exit 0))
noncomputable abbrev s62_1 : CC := (CC.seq (CC.region [(wB 11 (doMove (tm 10))), (wB 12 (doMove (tm 3))), (wB 13 (bin2 fLss (tm 11) (tm 12)))]) s62_0)
noncomputable abbrev s62_2 : CC := (CC.draws [(uB 16 (doMove (tm 0))), (uB 17 (doMove (tm 1))), (uB 18 (doMove (tm 10))), (uB 19 (bin2 fAdd (tm 17) (tm 18))), (uB 20 (doMove (tm 0))), (uB 21 (doMove (tm 2))), (uB 22 (doMove (tm 10))), (uB 23 (bin2 fAdd (tm 21) (tm 22))), (uB 24 (doMove (tm 0))), (uB 25 (doMove (tm 2))), (uB 26 (doMove (tm 10))), (uB 27 (bin2 fAdd (tm 25) (tm 26))), (uB 28 (doIndexAddr 3 (tm 24) (tm 27))), (uB 29 (doLoadA 3 (tm 28))), (uB 30 (doMove (tm 0))), (uB 31 (doMove (tm 1))), (uB 32 (doMove (tm 10))), (uB 33 (bin2 fAdd (tm 31) (tm 32))), (uB 34 (doIndexAddr 3 (tm 30) (tm 33))), (uB 35 (doLoadA 3 (tm 34))), (uB 36 (doIndexAddr 3 (tm 16) (tm 19))), (CO.mk G.none D.none Bool.true (CR.mk (doStore 3 (tm 36) (tm 29)))), (uB 37 (doIndexAddr 3 (tm 20) (tm 23))), (CO.mk G.none D.none Bool.true (CR.mk (doStore 3 (tm 37) (tm 35))))])
noncomputable abbrev s62_3 : CC := (CC.block 1 s62_2)
noncomputable abbrev s62_4 : CC := (CC.region [(wB 14 (doMove (tm 10))), (wB 15 (bin2 fAdd (tm 14) (oN 1))), (wB 10 (doMove (tm 15)))])
noncomputable abbrev s62_5 : CC := (CC.seq s62_3 s62_4)
noncomputable abbrev l62_0 : CC := (CC.seq s62_1 s62_5)
noncomputable abbrev s62_6 : CC := (CC.loop l62_0)
noncomputable abbrev s62_7 : CC := (CC.block 0 s62_6)
noncomputable abbrev b62 : CC := (CC.seq (CC.region [(wB 10 (doMove (oN 0)))]) s62_7)
theorem c62 : compFn Try.prog 62 = ⟨38, b62, []⟩ := by kernel_rfl
noncomputable abbrev s52_0 : CC := (CC.seq (CC.region [(wB 5 (doMove (tm 0))), (wB 6 (doMove (tm 1))), (wB 7 (doCall 59 [(tm 5), (tm 6)])), (wB 4 (doMove (tm 7)))]) CC.ret)
noncomputable abbrev b52 : CC := (CC.seq (CC.region [(wB 4 (doMove (oN 0)))]) s52_0)
theorem c52 : compFn Try.prog 52 = ⟨8, b52, [(Rs.tmp (slOf 4))]⟩ := by kernel_rfl
noncomputable abbrev s59_0 : CC := (CC.seq (CC.region [(wB 5 (doMove (tm 0))), (wB 6 (doMove (tm 1))), (wB 7 (doCmpS (tm 5) (tm 6))), (wB 4 (doMove (tm 7)))]) CC.ret)
noncomputable abbrev b59 : CC := (CC.seq (CC.region [(wB 4 (doMove (oN 0)))]) s59_0)
theorem c59 : compFn Try.prog 59 = ⟨8, b59, [(Rs.tmp (slOf 4))]⟩ := by kernel_rfl
noncomputable abbrev s40_0 : CC := (CC.seq (CC.region [(wB 5 (doFieldAddr 0 (tm 2))), (wB 6 (doLoad (tm 5))), (wB 7 (doFieldAddr 0 (tm 3))), (wB 8 (doLoad (tm 7))), (wB 9 (doCall 52 [(tm 6), (tm 8)])), (wB 4 (doMove (tm 9)))]) CC.ret)
noncomputable abbrev b40 : CC := (CC.seq (CC.region [(wB 2 (doBox 49 (tm 0))), (wB 3 (doBox 49 (tm 1))), (wB 4 (doMove (oN 0)))]) s40_0)
theorem c40 : compFn Try.prog 40 = ⟨10, b40, [(Rs.tmp (slOf 4))]⟩ := by kernel_rfl
end Go.Proofs.Ythncpgkpkdolfaa

set_option maxRecDepth 1000000
set_option linter.all false
namespace Go.Proofs.Ythncpgkpkdolfaa
open Go Go.Ev
noncomputable abbrev s16_0 : CC := (CC.cond (tm 7) CC.skip (CC.exit 0))
noncomputable abbrev s16_1 : CC := (CC.seq (CC.region [(wB 4 (doMove (tm 3))), (wB 5 (doMove (tm 0))), (wB 6 (doLen (tm 5))), (wB 7 (bin2 fLss (tm 4) (tm 6)))]) s16_0)
noncomputable abbrev s16_2 : CC := (CC.seq (CC.region [(wB 2 (doMove (O.c (V.b Bool.false))))]) CC.ret)
noncomputable abbrev s16_3 : CC := (CC.cond (tm 33) s16_2 CC.skip)
noncomputable abbrev s16_4 : CC := (CC.seq (CC.draws [(uB 10 (doMove (tm 0))), (uB 11 (doMove (tm 3))), (uB 12 (doIndexAddr 3 (tm 10) (tm 11))), (wB 13 (doLoadA 3 (tm 12))), (wB 14 (doCall 37 [(tm 13)])), (uB 15 (doNot (tm 14))), (uB 16 (doMove (tm 15))), (uG 16 false 17 (doMove (tm 3))), (uG 16 false 18 (bin2 fGtr (tm 17) (oN 0))), (uG 16 false 19 (doMove (tm 18))), (uG 19 true 20 (doMove (tm 0))), (uG 19 true 21 (doMove (tm 3))), (uG 19 true 22 (doIndexAddr 3 (tm 20) (tm 21))), (uG 19 true 23 (doFieldAddr 0 (tm 22))), (uG 19 true 24 (doLoad (tm 23))), (uG 19 true 25 (doMove (tm 0))), (uG 19 true 26 (doMove (tm 3))), (uG 19 true 27 (bin2 fSub (tm 26) (oN 1))), (uG 19 true 28 (doIndexAddr 3 (tm 25) (tm 27))), (uG 19 true 29 (doFieldAddr 0 (tm 28))), (uG 19 true 30 (doLoad (tm 29))), (uG 19 true 31 (doSCmp (fun a b c d => ltS a b c d || eqS a b c d) (tm 24) (tm 30))), (uG 16 false 32 (doPick (tm 19) (tm 31) (O.c (V.b Bool.false)))), (uB 33 (doPick (tm 16) (O.c (V.b Bool.true)) (tm 32)))]) s16_3)
noncomputable abbrev s16_5 : CC := (CC.block 1 s16_4)
noncomputable abbrev s16_6 : CC := (CC.region [(wB 8 (doMove (tm 3))), (wB 9 (bin2 fAdd (tm 8) (oN 1))), (wB 3 (doMove (tm 9)))])
noncomputable abbrev s16_7 : CC := (CC.seq s16_5 s16_6)
noncomputable abbrev l16_0 : CC := (CC.seq s16_1 s16_7)
noncomputable abbrev s16_8 : CC := (CC.loop l16_0)
noncomputable abbrev s16_9 : CC := (CC.block 0 s16_8)
noncomputable abbrev s16_10 : CC := (CC.seq (CC.region [(wB 3 (doMove (oN 0)))]) s16_9)
noncomputable abbrev s16_11 : CC := (CC.seq (CC.region [(wB 34 (doMove (tm 0))), (wB 35 (doLen (tm 34))), (wB 36 (bin2 fLeq (tm 35) (oN 8))), (wB 2 (doMove (tm 36)))]) CC.ret)
noncomputable abbrev s16_12 : CC := (CC.seq s16_10 s16_11)
noncomputable abbrev b16 : CC := (CC.seq (CC.region [(wB 2 (doMove (O.c (V.b Bool.false))))]) s16_12)
theorem c16 : compFn Try.prog 16 = ⟨37, b16, [(Rs.tmp (slOf 2))]⟩ := by kernel_rfl
noncomputable abbrev s30_0 : CC := (CC.cond (tm 11) CC.skip (CC.exit 0))
noncomputable abbrev s30_1 : CC := (CC.seq (CC.region [(wB 8 (doMove (tm 4))), (wB 9 (doMove (tm 0))), (wB 10 (doLen (tm 9))), (wB 11 (bin2 fLss (tm 8) (tm 10)))]) s30_0)
noncomputable abbrev s30_2 : CC := (CC.region [(wB 27 (doMove (tm 3))), (wB 28 (doConcat (tm 27) (O.c (V.s 1 1)))), (wB 3 (doMove (tm 28)))])
noncomputable abbrev s30_3 : CC := (CC.region [(wB 29 (doMove (tm 3))), (wB 30 (doConcat (tm 29) (O.c (V.s 1 0)))), (wB 31 (doMove (tm 0))), (wB 32 (doMove (tm 4))), (wB 33 (doIndexAddr 3 (tm 31) (tm 32))), (wB 34 (doFieldAddr 2 (tm 33))), (wB 35 (doLoad (tm 34))), (wB 36 (doCall 47 [(tm 35)])), (wB 37 (doConcat (tm 30) (tm 36))), (wB 3 (doMove (tm 37)))])
noncomputable abbrev s30_4 : CC := (CC.cond (tm 26) s30_2 s30_3)
noncomputable abbrev s30_5 : CC := (CC.seq (CC.region [(wB 22 (doMove (tm 0))), (wB 23 (doMove (tm 4))), (wB 24 (doIndexAddr 3 (tm 22) (tm 23))), (wB 25 (doFieldAddr 1 (tm 24))), (wB 26 (doLoad (tm 25)))]) s30_4)
noncomputable abbrev s30_6 : CC := (CC.seq (CC.region [(wB 14 (doMove (tm 3))), (wB 15 (doMove (tm 0))), (wB 16 (doMove (tm 4))), (wB 17 (doIndexAddr 3 (tm 15) (tm 16))), (wB 18 (doFieldAddr 0 (tm 17))), (wB 19 (doLoad (tm 18))), (wB 20 (doCall 47 [(tm 19)])), (wB 21 (doConcat (tm 14) (tm 20))), (wB 3 (doMove (tm 21)))]) s30_5)
noncomputable abbrev s30_7 : CC := (CC.block 1 s30_6)
noncomputable abbrev s30_8 : CC := (CC.region [(wB 12 (doMove (tm 4))), (wB 13 (bin2 fAdd (tm 12) (oN 1))), (wB 4 (doMove (tm 13)))])
noncomputable abbrev s30_9 : CC := (CC.seq s30_7 s30_8)
noncomputable abbrev l30_0 : CC := (CC.seq s30_1 s30_9)
noncomputable abbrev s30_10 : CC := (CC.loop l30_0)
noncomputable abbrev s30_11 : CC := (CC.block 0 s30_10)
noncomputable abbrev s30_12 : CC := (CC.seq (CC.region [(wB 4 (doMove (oN 0)))]) s30_11)
noncomputable abbrev s30_13 : CC := (CC.seq (CC.region [(wB 38 (doMove (tm 3))), (wB 2 (doMove (tm 38)))]) CC.ret)
noncomputable abbrev s30_14 : CC := (CC.seq s30_12 s30_13)
noncomputable abbrev s30_15 : CC := (CC.seq (CC.region [(wB 5 (doMove (tm 0))), (wB 6 (doLen (tm 5))), (wB 7 (doCall 29 [(tm 6)])), (wB 3 (doMove (tm 7)))]) s30_14)
noncomputable abbrev b30 : CC := (CC.seq (CC.region [(wB 2 (doMove (O.c (V.s 0 0))))]) s30_15)
theorem c30 : compFn Try.prog 30 = ⟨39, b30, [(Rs.tmp (slOf 2))]⟩ := by kernel_rfl
noncomputable abbrev s10_0 : CC := (CC.seq (CC.region [(wB 4 (doMove (O.c (V.s 0 0)))), (wB 5 (doMove (oN 10)))]) CC.ret)
noncomputable abbrev s10_1 : CC := (CC.cond (tm 16) s10_0 CC.skip)
noncomputable abbrev s10_2 : CC := (CC.seq (CC.region [(wB 6 (doMove (tm 1))), (wB 7 (doCall 16 [(tm 6)])), (wB 8 (doNot (tm 7))), (wB 9 (doMove (tm 8))), (wG 9 false 10 (doMove (tm 0))), (wG 9 false 11 (bin2 fLss (tm 10) (oN 1))), (wB 12 (doPick (tm 9) (O.c (V.b Bool.true)) (tm 11))), (wB 13 (doMove (tm 12))), (wG 13 false 14 (doMove (tm 0))), (wG 13 false 15 (bin2 fGtr (tm 14) (oN 1000000))), (wB 16 (doPick (tm 13) (O.c (V.b Bool.true)) (tm 15)))]) s10_1)
noncomputable abbrev s10_3 : CC := (CC.seq (CC.region [(wB 17 (doMove (tm 0))), (wB 18 (doCall 29 [(tm 17)])), (wB 19 (doMove (tm 1))), (wB 20 (doCall 30 [(tm 19)])), (wB 21 (doConcat (tm 18) (tm 20))), (wB 22 (doCall 28 [(tm 21)])), (wB 4 (doMove (tm 22))), (wB 5 (doMove (oN 0)))]) CC.ret)
noncomputable abbrev s10_4 : CC := (CC.seq s10_2 s10_3)
noncomputable abbrev b10 : CC := (CC.seq (CC.region [(wB 4 (doMove (O.c (V.s 0 0)))), (wB 5 (doMove (oN 0)))]) s10_4)
theorem c10 : compFn Try.prog 10 = ⟨23, b10, [(Rs.tmp (slOf 4)), (Rs.tmp (slOf 5))]⟩ := by kernel_rfl
noncomputable abbrev s35_0 : CC := (CC.seq (CC.region [(wB 2 (doMove (O.c V.l0))), (wB 3 (doMove (oN 0))), (wB 4 (doMove (O.c (V.b Bool.false))))]) CC.ret)
noncomputable abbrev s35_1 : CC := (CC.cond (tm 28) s35_0 CC.skip)
noncomputable abbrev s35_2 : CC := (CC.seq (CC.region [(wB 23 (doMove (tm 7))), (wB 24 (bin2 fNeq (tm 23) (oN 0))), (wB 25 (doMove (tm 24))), (wG 25 false 26 (doMove (tm 5))), (wG 25 false 27 (bin2 fGtr (tm 26) (oN 8))), (wB 28 (doPick (tm 25) (O.c (V.b Bool.true)) (tm 27)))]) s35_1)
noncomputable abbrev s35_3 : CC := (CC.cond (tm 31) CC.skip (CC.exit 0))
noncomputable abbrev s35_4 : CC := (CC.seq (CC.region [(wB 29 (doMove (tm 9))), (wB 30 (doMove (tm 5))), (wB 31 (bin2 fLss (tm 29) (tm 30)))]) s35_3)
noncomputable abbrev s35_5 : CC := (CC.seq (CC.region [(wB 2 (doMove (O.c V.l0))), (wB 3 (doMove (oN 0))), (wB 4 (doMove (O.c (V.b Bool.false))))]) CC.ret)
noncomputable abbrev s35_6 : CC := (CC.cond (tm 51) s35_5 CC.skip)
noncomputable abbrev s35_7 : CC := (CC.seq (CC.region [(wB 42 (doMove (tm 12))), (wB 43 (bin2 fNeq (tm 42) (oN 0))), (wB 44 (doMove (tm 43))), (wG 44 false 45 (doMove (tm 6))), (wG 44 false 46 (doMove (tm 11))), (wG 44 false 47 (bin2 fAdd (tm 45) (tm 46))), (wG 44 false 48 (doMove (tm 0))), (wG 44 false 49 (doLenS (tm 48))), (wG 44 false 50 (bin2 fEql (tm 47) (tm 49))), (wB 51 (doPick (tm 44) (O.c (V.b Bool.true)) (tm 50)))]) s35_6)
noncomputable abbrev s35_8 : CC := (CC.seq (CC.region [(wB 2 (doMove (O.c V.l0))), (wB 3 (doMove (oN 0))), (wB 4 (doMove (O.c (V.b Bool.false))))]) CC.ret)
noncomputable abbrev s35_9 : CC := (CC.cond (tm 76) s35_8 CC.skip)
noncomputable abbrev s35_10 : CC := (CC.seq (CC.region [(wB 75 (doMove (tm 16))), (wB 76 (bin2 fNeq (tm 75) (oN 0)))]) s35_9)
noncomputable abbrev s35_11 : CC := (CC.region [(wB 79 (doMove (tm 6))), (wB 80 (doMove (tm 15))), (wB 81 (bin2 fAdd (tm 79) (tm 80))), (wB 6 (doMove (tm 81)))])
noncomputable abbrev s35_12 : CC := (CC.seq (CC.region [(wB 77 (doMove (tm 14))), (wB 78 (doFieldAddr 2 (tm 13))), (CO.mk G.none D.none Bool.true (CR.mk (doStore 1 (tm 78) (tm 77))))]) s35_11)
noncomputable abbrev s35_13 : CC := (CC.seq s35_10 s35_12)
noncomputable abbrev s35_14 : CC := (CC.seq (CC.region [(wB 68 (doMove (tm 0))), (wB 69 (doMove (tm 6))), (wB 70 (doSSlice (tm 68) (some (tm 69)) none)), (wB 71 (doCall 50 [(tm 70)])), (wB 67 (doMove (tm 71))), (wB 72 (doExtract 0 (tm 67))), (wB 73 (doExtract 1 (tm 67))), (wB 74 (doExtract 2 (tm 67))), (wB 14 (doMove (tm 72))), (wB 15 (doMove (tm 73))), (wB 16 (doMove (tm 74)))]) s35_13)
noncomputable abbrev s35_15 : CC := (CC.cond (tm 66) s35_14 CC.skip)
noncomputable abbrev s35_16 : CC := (CC.seq (CC.region [(wB 64 (doFieldAddr 1 (tm 13))), (wB 65 (doLoad (tm 64))), (wB 66 (doNot (tm 65)))]) s35_15)
noncomputable abbrev s35_17 : CC := (CC.region [(wB 82 (doMove (tm 8))), (wB 83 (doLoadA 3 (tm 13))), (wB 84 (doBuildSlice 49 1 [(V.s 0 0), (V.b Bool.false), (V.s 0 0)] [(Pt.mk 0 3 (tm 83))])), (wB 85 (doAppend 49 3 (tm 82) (tm 84))), (wB 8 (doMove (tm 85)))])
noncomputable abbrev s35_18 : CC := (CC.seq s35_16 s35_17)
noncomputable abbrev s35_19 : CC := (CC.seq (CC.region [(wB 60 (doMove (tm 6))), (wB 61 (doMove (tm 11))), (wB 62 (bin2 fAdd (tm 60) (tm 61))), (wB 63 (bin2 fAdd (tm 62) (oN 1))), (wB 6 (doMove (tm 63)))]) s35_18)
noncomputable abbrev s35_20 : CC := (CC.seq (CC.region [(wB 52 (doMove (tm 10))), (wB 53 (doMove (tm 0))), (wB 54 (doMove (tm 6))), (wB 55 (doMove (tm 11))), (wB 56 (bin2 fAdd (tm 54) (tm 55))), (wB 57 (doSIndex (tm 53) (tm 56))), (wB 58 (bin2 fEql (tm 57) (O.c (V.i IntKind.u8 (Int.ofNat 1))))), (wB 59 (doBuild [(V.s 0 0), (V.b Bool.false), (V.s 0 0)] [(Pt.mk 0 1 (tm 52)), (Pt.mk 1 1 (tm 58))])), (wB 13 (doAlloc 49 [(V.s 0 0), (V.b Bool.false), (V.s 0 0)])), (CO.mk G.none D.none Bool.true (CR.mk (doStore 3 (tm 13) (tm 59))))]) s35_19)
noncomputable abbrev s35_21 : CC := (CC.seq s35_7 s35_20)
noncomputable abbrev s35_22 : CC := (CC.seq (CC.region [(wB 35 (doMove (tm 0))), (wB 36 (doMove (tm 6))), (wB 37 (doSSlice (tm 35) (some (tm 36)) none)), (wB 38 (doCall 50 [(tm 37)])), (wB 34 (doMove (tm 38))), (wB 39 (doExtract 0 (tm 34))), (wB 40 (doExtract 1 (tm 34))), (wB 41 (doExtract 2 (tm 34))), (wB 10 (doMove (tm 39))), (wB 11 (doMove (tm 40))), (wB 12 (doMove (tm 41)))]) s35_21)
noncomputable abbrev s35_23 : CC := (CC.block 1 s35_22)
noncomputable abbrev s35_24 : CC := (CC.region [(wB 32 (doMove (tm 9))), (wB 33 (bin2 fAdd (tm 32) (oN 1))), (wB 9 (doMove (tm 33)))])
noncomputable abbrev s35_25 : CC := (CC.seq s35_23 s35_24)
noncomputable abbrev l35_0 : CC := (CC.seq s35_4 s35_25)
noncomputable abbrev s35_26 : CC := (CC.loop l35_0)
noncomputable abbrev s35_27 : CC := (CC.block 0 s35_26)
noncomputable abbrev s35_28 : CC := (CC.seq (CC.region [(wB 9 (doMove (oN 0)))]) s35_27)
noncomputable abbrev s35_29 : CC := (CC.seq (CC.region [(wB 86 (doMove (tm 8))), (wB 87 (doMove (tm 6))), (wB 2 (doMove (tm 86))), (wB 3 (doMove (tm 87))), (wB 4 (doMove (O.c (V.b Bool.true))))]) CC.ret)
noncomputable abbrev s35_30 : CC := (CC.seq s35_28 s35_29)
noncomputable abbrev s35_31 : CC := (CC.seq (CC.region [(wB 8 (doMove (O.c V.l0)))]) s35_30)
noncomputable abbrev s35_32 : CC := (CC.seq s35_2 s35_31)
noncomputable abbrev s35_33 : CC := (CC.seq (CC.region [(wB 18 (doMove (tm 0))), (wB 19 (doCall 34 [(tm 18)])), (wB 17 (doMove (tm 19))), (wB 20 (doExtract 0 (tm 17))), (wB 21 (doExtract 1 (tm 17))), (wB 22 (doExtract 2 (tm 17))), (wB 5 (doMove (tm 20))), (wB 6 (doMove (tm 21))), (wB 7 (doMove (tm 22)))]) s35_32)
noncomputable abbrev b35 : CC := (CC.seq (CC.region [(wB 2 (doMove (O.c V.l0))), (wB 3 (doMove (oN 0))), (wB 4 (doMove (O.c (V.b Bool.false))))]) s35_33)
theorem c35 : compFn Try.prog 35 = ⟨88, b35, [(Rs.tmp (slOf 2)), (Rs.tmp (slOf 3)), (Rs.tmp (slOf 4))]⟩ := by kernel_rfl
noncomputable abbrev s12_0 : CC := (CC.seq (CC.region [(wB 25 (doMove (tm 8))), (wB 2 (doMove (oN 0))), (wB 3 (doMove (O.c V.l0))), (wB 4 (doMove (oN 0))), (wB 5 (doMove (tm 25)))]) CC.ret)
noncomputable abbrev s12_1 : CC := (CC.cond (tm 24) s12_0 CC.skip)
noncomputable abbrev s12_2 : CC := (CC.seq (CC.region [(wB 23 (doMove (tm 8))), (wB 24 (bin2 fNeq (tm 23) (oN 0)))]) s12_1)
noncomputable abbrev s12_3 : CC := (CC.seq (CC.region [(wB 2 (doMove (oN 0))), (wB 3 (doMove (O.c V.l0))), (wB 4 (doMove (oN 0))), (wB 5 (doMove (oN 10)))]) CC.ret)
noncomputable abbrev s12_4 : CC := (CC.cond (tm 33) s12_3 CC.skip)
noncomputable abbrev s12_5 : CC := (CC.seq (CC.region [(wB 32 (doMove (tm 11))), (wB 33 (bin2 fNeq (tm 32) (oN 0)))]) s12_4)
noncomputable abbrev s12_6 : CC := (CC.seq (CC.region [(wB 2 (doMove (oN 0))), (wB 3 (doMove (O.c V.l0))), (wB 4 (doMove (oN 0))), (wB 5 (doMove (oN 10)))]) CC.ret)
noncomputable abbrev s12_7 : CC := (CC.cond (tm 60) s12_6 CC.skip)
noncomputable abbrev s12_8 : CC := (CC.seq (CC.region [(wB 48 (doMove (tm 14))), (wB 49 (doNot (tm 48))), (wB 50 (doMove (tm 49))), (wG 50 false 51 (doMove (tm 16))), (wG 50 false 52 (bin2 fNeq (tm 51) (oN 0))), (wB 53 (doPick (tm 50) (O.c (V.b Bool.true)) (tm 52))), (wB 54 (doMove (tm 53))), (wG 54 false 55 (doMove (tm 15))), (wG 54 false 56 (doMove (tm 0))), (wG 54 false 57 (doMove (tm 7))), (wG 54 false 58 (doSSlice (tm 56) none (some (tm 57)))), (wG 54 false 59 (doSCmp (fun a b c d => !eqS a b c d) (tm 55) (tm 58))), (wB 60 (doPick (tm 54) (O.c (V.b Bool.true)) (tm 59)))]) s12_7)
noncomputable abbrev s12_9 : CC := (CC.seq (CC.region [(wB 61 (doMove (tm 9))), (wB 62 (doMove (tm 12))), (wB 63 (doMove (tm 7))), (wB 2 (doMove (tm 61))), (wB 3 (doMove (tm 62))), (wB 4 (doMove (tm 63))), (wB 5 (doMove (oN 0)))]) CC.ret)
noncomputable abbrev s12_10 : CC := (CC.seq s12_8 s12_9)
noncomputable abbrev s12_11 : CC := (CC.seq (CC.region [(wB 43 (doMove (tm 9))), (wB 44 (doMove (tm 12))), (wB 45 (doCall 10 [(tm 43), (tm 44)])), (wB 42 (doMove (tm 45))), (wB 46 (doExtract 0 (tm 42))), (wB 47 (doExtract 1 (tm 42))), (wB 15 (doMove (tm 46))), (wB 16 (doMove (tm 47)))]) s12_10)
noncomputable abbrev s12_12 : CC := (CC.seq (CC.region [(wB 35 (doMove (tm 6))), (wB 36 (doMove (tm 10))), (wB 37 (doSSlice (tm 35) (some (tm 36)) none)), (wB 38 (doCall 35 [(tm 37)])), (wB 34 (doMove (tm 38))), (wB 39 (doExtract 0 (tm 34))), (wB 40 (doExtract 1 (tm 34))), (wB 41 (doExtract 2 (tm 34))), (wB 12 (doMove (tm 39))), (wB 13 (doMove (tm 40))), (wB 14 (doMove (tm 41)))]) s12_11)
noncomputable abbrev s12_13 : CC := (CC.seq s12_5 s12_12)
noncomputable abbrev s12_14 : CC := (CC.seq (CC.region [(wB 27 (doMove (tm 6))), (wB 28 (doCall 34 [(tm 27)])), (wB 26 (doMove (tm 28))), (wB 29 (doExtract 0 (tm 26))), (wB 30 (doExtract 1 (tm 26))), (wB 31 (doExtract 2 (tm 26))), (wB 9 (doMove (tm 29))), (wB 10 (doMove (tm 30))), (wB 11 (doMove (tm 31)))]) s12_13)
noncomputable abbrev s12_15 : CC := (CC.seq s12_2 s12_14)
noncomputable abbrev s12_16 : CC := (CC.seq (CC.region [(wB 18 (doMove (tm 0))), (wB 19 (doCall 33 [(tm 18)])), (wB 17 (doMove (tm 19))), (wB 20 (doExtract 0 (tm 17))), (wB 21 (doExtract 1 (tm 17))), (wB 22 (doExtract 2 (tm 17))), (wB 6 (doMove (tm 20))), (wB 7 (doMove (tm 21))), (wB 8 (doMove (tm 22)))]) s12_15)
noncomputable abbrev b12 : CC := (CC.seq (CC.region [(wB 2 (doMove (oN 0))), (wB 3 (doMove (O.c V.l0))), (wB 4 (doMove (oN 0))), (wB 5 (doMove (oN 0)))]) s12_16)
theorem c12 : compFn Try.prog 12 = ⟨64, b12, [(Rs.tmp (slOf 2)), (Rs.tmp (slOf 3)), (Rs.tmp (slOf 4)), (Rs.tmp (slOf 5))]⟩ := by kernel_rfl
noncomputable abbrev s8_0 : CC := (CC.cond (tm 7) CC.skip (CC.exit 0))
noncomputable abbrev s8_1 : CC := (CC.seq (CC.region [(wB 4 (doMove (tm 3))), (wB 5 (doMove (tm 0))), (wB 6 (doLen (tm 5))), (wB 7 (bin2 fLss (tm 4) (tm 6)))]) s8_0)
noncomputable abbrev s8_2 : CC := (CC.seq (CC.region [(wB 2 (doMove (O.c (V.b Bool.false))))]) CC.ret)
noncomputable abbrev s8_3 : CC := (CC.cond (tm 25) s8_2 CC.skip)
noncomputable abbrev s8_4 : CC := (CC.seq (CC.region [(wB 10 (doMove (tm 0))), (wB 11 (doMove (tm 3))), (wB 12 (doIndexAddr 3 (tm 10) (tm 11))), (wB 13 (doFieldAddr 0 (tm 12))), (wB 14 (doLoad (tm 13))), (wB 15 (doLenS (tm 14))), (wB 16 (bin2 fGtr (tm 15) (oN 20))), (wB 17 (doMove (tm 16))), (wG 17 false 18 (doMove (tm 0))), (wG 17 false 19 (doMove (tm 3))), (wG 17 false 20 (doIndexAddr 3 (tm 18) (tm 19))), (wG 17 false 21 (doFieldAddr 2 (tm 20))), (wG 17 false 22 (doLoad (tm 21))), (wG 17 false 23 (doLenS (tm 22))), (wG 17 false 24 (bin2 fGtr (tm 23) (oN 40))), (wB 25 (doPick (tm 17) (O.c (V.b Bool.true)) (tm 24)))]) s8_3)
noncomputable abbrev s8_5 : CC := (CC.block 1 s8_4)
noncomputable abbrev s8_6 : CC := (CC.region [(wB 8 (doMove (tm 3))), (wB 9 (bin2 fAdd (tm 8) (oN 1))), (wB 3 (doMove (tm 9)))])
noncomputable abbrev s8_7 : CC := (CC.seq s8_5 s8_6)
noncomputable abbrev l8_0 : CC := (CC.seq s8_1 s8_7)
noncomputable abbrev s8_8 : CC := (CC.loop l8_0)
noncomputable abbrev s8_9 : CC := (CC.block 0 s8_8)
noncomputable abbrev s8_10 : CC := (CC.seq (CC.region [(wB 3 (doMove (oN 0)))]) s8_9)
noncomputable abbrev s8_11 : CC := (CC.seq (CC.region [(wB 26 (doMove (tm 0))), (wB 27 (doLen (tm 26))), (wB 28 (bin2 fLeq (tm 27) (oN 20))), (wB 2 (doMove (tm 28)))]) CC.ret)
noncomputable abbrev s8_12 : CC := (CC.seq s8_10 s8_11)
noncomputable abbrev b8 : CC := (CC.seq (CC.region [(wB 2 (doMove (O.c (V.b Bool.false))))]) s8_12)
theorem c8 : compFn Try.prog 8 = ⟨29, b8, [(Rs.tmp (slOf 2))]⟩ := by kernel_rfl
end Go.Proofs.Ythncpgkpkdolfaa

set_option linter.all false
namespace Go.Ev
open Go
/-- the bytes of a number, the highest first, no 0 ahead -/
def digs (n : Nat) : List UInt8 := if h : n = 0 then [] else digs (n / 256) ++ [UInt8.ofNat (n % 256)]
decreasing_by omega
theorem digs_zero : digs 0 = [] := by rw [digs]; simp
theorem digs_pos {n : Nat} (h : n ≠ 0) : digs n = digs (n / 256) ++ [UInt8.ofNat (n % 256)] := by rw [digs]; simp [h]
theorem digs_len : ∀ (k n : Nat), n < 256 ^ k → (digs n).length ≤ k
  | 0, n, h => by
    have : n = 0 := by simp at h; exact h
    subst this; rw [digs_zero]; simp
  | k + 1, n, h => by
    by_cases hn : n = 0
    · subst hn; rw [digs_zero]; simp
    · rw [digs_pos hn, List.length_append]
      have := digs_len k (n / 256) (by rw [Nat.pow_succ] at h; omega)
      simp; exact this
theorem pk_digs (n : Nat) : pk (digs n) = n := by
  induction n using Nat.strongRecOn with
  | _ n ih =>
    by_cases hn : n = 0
    · subst hn; rw [digs_zero]; rfl
    · rw [digs_pos hn, pk_append, ih (n / 256) (by omega)]
      simp [pk]
      omega
theorem digs_head (n : Nat) : (digs n).head? ≠ some 0 := by
  induction n using Nat.strongRecOn with
  | _ n ih =>
    by_cases hn : n = 0
    · subst hn; rw [digs_zero]; simp
    · rw [digs_pos hn]
      by_cases h2 : n / 256 = 0
      · rw [h2, digs_zero]
        intro h
        have h3 : UInt8.ofNat (n % 256) = 0 := by simpa using h
        have h4 := congrArg UInt8.toNat h3
        simp at h4
        omega
      · have := ih (n / 256) (by omega)
        cases hd : digs (n / 256) with
        | nil =>
          have := pk_digs (n / 256)
          rw [hd] at this
          exact absurd this.symm h2
        | cons c l => rw [hd] at this; simpa using this
theorem pk_cons_pos {c : UInt8} {l : List UInt8} (h : c ≠ 0) : 256 ^ l.length ≤ pk (c :: l) := by
  have : 1 ≤ c.toNat := by
    rcases Nat.eq_zero_or_pos c.toNat with h1 | h1
    · exact absurd (UInt8.toNat_inj.1 h1) h
    · exact h1
  have := Nat.mul_le_mul_right (256 ^ l.length) this
  rw [pk]; omega
/-- digits without a 0 ahead are the digits of their number -/
theorem digs_pk : ∀ (l : List UInt8), l.head? ≠ some 0 → digs (pk l) = l := by
  intro l
  induction hl : l.length using Nat.strongRecOn generalizing l with
  | _ n ih =>
    intro hh
    rcases List.eq_nil_or_concat l with rfl | ⟨r, c, rfl⟩
    · exact digs_zero
    · simp only [List.concat_eq_append] at hl hh ⊢
      have hc : c.toNat < 256 := c.toNat_lt
      have e1 : pk (r ++ [c]) = pk r * 256 + c.toNat := by rw [pk_append]; simp [pk]
      have hne : pk (r ++ [c]) ≠ 0 := by
        cases r with
        | nil =>
          intro h0
          have : c = 0 := UInt8.toNat_inj.1 (by rw [e1] at h0; simp [pk] at h0; exact h0)
          subst this
          simp at hh
        | cons d r =>
          have hd : d ≠ 0 := fun h0 => hh (by rw [h0]; rfl)
          have := pk_cons_pos (l := r) hd
          have hp : 0 < 256 ^ r.length := Nat.pow_pos (by omega)
          omega
      rw [digs_pos hne, e1]
      have e2 : (pk r * 256 + c.toNat) / 256 = pk r := by omega
      have e3 : (pk r * 256 + c.toNat) % 256 = c.toNat := by omega
      rw [e2, e3]
      have hr : r.head? ≠ some 0 := by
        cases r with
        | nil => simp
        | cons d r => simpa using hh
      rw [ih r.length (by rw [← hl]; simp) r rfl hr]
      simp
/-- digits that are no number -/
def badD (l : List UInt8) : Prop := l.head? = some 0 ∨ 9223372036854775808 ≤ pk l
instance (l : List UInt8) : Decidable (badD l) := by unfold badD; exact inferInstance
/-- what reading digits makes -/
def numR (l : List UInt8) : V := if badD l then .tu [.i .i64 0, .b false] else .tu [.i .i64 (pk l : Int), .b true]
theorem numR_bad {l : List UInt8} (h : badD l) : numR l = .tu [.i .i64 0, .b false] := if_pos h
theorem numR_ok {l : List UInt8} (h : ¬ badD l) : numR l = .tu [.i .i64 (pk l : Int), .b true] := if_neg h
/-- a number's cell -/
def numB (n : Nat) : List UInt8 := UInt8.ofNat (digs n).length :: digs n
def textB (l : List UInt8) : List UInt8 := numB l.length ++ l
theorem digs_len8 {n : Nat} (h : n ≤ 9223372036854775807) : (digs n).length ≤ 8 := digs_len 8 n (by omega)
theorem numB_len {n : Nat} (h : n ≤ 9223372036854775807) : (numB n).length ≤ 9 := by
  have := digs_len8 h
  show (digs n).length + 1 ≤ 9
  omega
/-- what stands at the front -/
def takeN : List UInt8 → Int × Int × Int
  | [] => (0, 0, 12)
  | w :: r => if 8 < w.toNat then (0, 0, 10) else if r.length < w.toNat then (0, 0, 12) else
    if (r.take w.toNat).head? = some 0 ∨ 9223372036854775808 ≤ pk (r.take w.toNat) then (0, 0, 10) else (((pk (r.take w.toNat) : Nat) : Int), ((w.toNat + 1 : Nat) : Int), 0)
def takeT (l : List UInt8) : List UInt8 × Int × Int :=
  if (takeN l).2.2 = 0 then
    if ((l.drop (takeN l).2.1.toNat).length : Int) < (takeN l).1 then ([], 0, 12) else ((l.drop (takeN l).2.1.toNat).take (takeN l).1.toNat, (takeN l).2.1 + (takeN l).1, 0)
  else ([], 0, (takeN l).2.2)
theorem takeN_cons (w : UInt8) (r : List UInt8) : takeN (w :: r) = if 8 < w.toNat then (0, 0, 10) else if r.length < w.toNat then (0, 0, 12) else
    if (r.take w.toNat).head? = some 0 ∨ 9223372036854775808 ≤ pk (r.take w.toNat) then (0, 0, 10) else (((pk (r.take w.toNat) : Nat) : Int), ((w.toNat + 1 : Nat) : Int), 0) := rfl
theorem takeN_nil : takeN [] = (0, 0, 12) := rfl
theorem takeN_big {w : UInt8} {r : List UInt8} (h : 8 < w.toNat) : takeN (w :: r) = (0, 0, 10) := by rw [takeN_cons, if_pos h]
theorem takeN_short {w : UInt8} {r : List UInt8} (h : w.toNat ≤ 8) (h1 : r.length < w.toNat) : takeN (w :: r) = (0, 0, 12) := by rw [takeN_cons, if_neg (by omega), if_pos h1]
theorem takeN_bad {w : UInt8} {r : List UInt8} (h : w.toNat ≤ 8) (h1 : w.toNat ≤ r.length) (h2 : (r.take w.toNat).head? = some 0 ∨ 9223372036854775808 ≤ pk (r.take w.toNat)) : takeN (w :: r) = (0, 0, 10) := by
  rw [takeN_cons, if_neg (by omega), if_neg (by omega), if_pos h2]
theorem takeN_ok {w : UInt8} {r : List UInt8} (h : w.toNat ≤ 8) (h1 : w.toNat ≤ r.length) (h2 : ¬ ((r.take w.toNat).head? = some 0 ∨ 9223372036854775808 ≤ pk (r.take w.toNat))) : takeN (w :: r) = (((pk (r.take w.toNat) : Nat) : Int), ((w.toNat + 1 : Nat) : Int), 0) := by
  rw [takeN_cons, if_neg (by omega), if_neg (by omega), if_neg h2]
/-- what it may be -/
theorem takeN_range (l : List UInt8) : (takeN l = (0, 0, 10) ∨ takeN l = (0, 0, 12)) ∨ ∃ n k : Nat, takeN l = ((n : Int), (k : Int), 0) ∧ n ≤ 9223372036854775807 ∧ 1 ≤ k ∧ k ≤ 9 ∧ k ≤ l.length := by
  cases l with
  | nil => exact .inl (.inr rfl)
  | cons w r =>
    by_cases h : 8 < w.toNat
    · exact .inl (.inl (takeN_big h))
    · by_cases h1 : r.length < w.toNat
      · exact .inl (.inr (takeN_short (by omega) h1))
      · by_cases h2 : (r.take w.toNat).head? = some 0 ∨ 9223372036854775808 ≤ pk (r.take w.toNat)
        · exact .inl (.inl (takeN_bad (by omega) (by omega) h2))
        · refine .inr ⟨_, _, takeN_ok (by omega) (by omega) h2, by omega, by omega, by omega, by simp; omega⟩
/-- the value of digits, byte by byte -/
theorem pk_take {l : List UInt8} {i : Nat} (h : i < l.length) : pk (l.take (i + 1)) = pk (l.take i) * 256 + (l.getD i 0).toNat := by
  have e : l.getD i 0 = l[i] := by simp [List.getD, h]
  rw [List.take_succ_eq_append_getElem h, pk_append, e]
  simp [pk]
theorem takeN_numB {n : Nat} (h : n ≤ 9223372036854775807) (more : List UInt8) : takeN (numB n ++ more) = ((n : Int), ((numB n).length : Int), 0) := by
  have hl := digs_len8 h
  have e1 : (UInt8.ofNat (digs n).length).toNat = (digs n).length := by simp; omega
  have e2 : (digs n ++ more).take (digs n).length = digs n := by simp
  have : takeN (numB n ++ more) = (((pk ((digs n ++ more).take (UInt8.ofNat (digs n).length).toNat) : Nat) : Int), (((UInt8.ofNat (digs n).length).toNat + 1 : Nat) : Int), 0) := by
    refine takeN_ok (by omega) (by rw [e1]; simp) ?_
    have e3 : (digs n).append more = digs n ++ more := rfl
    rw [e1, e3, e2, pk_digs]
    rintro (h2 | h2)
    · exact digs_head n h2
    · omega
  rw [this, e1, e2, pk_digs]
  rfl
theorem takeT_textB {l more : List UInt8} (h : l.length ≤ 9223372036854775807) : takeT (textB l ++ more) = (l, ((textB l).length : Int), 0) := by
  have e : takeN (textB l ++ more) = ((l.length : Int), ((numB l.length).length : Int), 0) := by
    unfold textB; rw [List.append_assoc]; exact takeN_numB h _
  unfold takeT
  rw [e]
  simp only [if_true]
  have e2 : (textB l ++ more).drop (((numB l.length).length : Nat) : Int).toNat = l ++ more := by
    rw [Int.toNat_natCast]; unfold textB; rw [List.append_assoc]; simp
  rw [e2, if_neg (by simp; omega)]
  rw [Int.toNat_natCast]
  unfold textB
  simp
/-- cut off bytes lack -/
theorem takeN_cut {n c : Nat} (h : n ≤ 9223372036854775807) (hc : c < (numB n).length) : takeN ((numB n).take c) = (0, 0, 12) := by
  have hl := digs_len8 h
  have e1 : (UInt8.ofNat (digs n).length).toNat = (digs n).length := by simp; omega
  cases c with
  | zero => rfl
  | succ c =>
    have : (numB n).take (c + 1) = UInt8.ofNat (digs n).length :: (digs n).take c := rfl
    rw [this]
    have hc' : c < (digs n).length := by unfold numB at hc; simp at hc; omega
    exact takeN_short (by omega) (by rw [List.length_take, e1]; omega)
theorem badD_iff {r : List UInt8} {k : Nat} (h8 : k ≤ 8) (h1 : k ≤ r.length) : badD (r.take k) ↔ (0 < k ∧ (r.getD 0 0).toNat = 0) ∨ (k = 8 ∧ 128 ≤ (r.getD 0 0).toNat) := by
  cases k with
  | zero =>
    constructor
    · rintro (h | h)
      · simp at h
      · simp [pk] at h
    · rintro (h | h) <;> omega
  | succ k =>
    cases r with
    | nil => simp at h1
    | cons c r =>
      have e : (c :: r).getD 0 0 = c := rfl
      have hl : (r.take k).length = k := by rw [List.length_take]; simp at h1; omega
      have h2 := pk_lt (r.take k)
      have ep : pk (c :: r.take k) = c.toNat * 256 ^ k + pk (r.take k) := by rw [pk, hl]
      rw [hl] at h2
      rw [e, List.take_succ_cons]
      constructor
      · rintro (h | h)
        · have : c = 0 := by simpa using h
          exact .inl ⟨by omega, by rw [this]; rfl⟩
        · rw [ep] at h
          by_cases hk : k = 7
          · subst hk; exact .inr ⟨rfl, by omega⟩
          · have h3 : 256 ^ k ≤ 256 ^ 6 := Nat.pow_le_pow_right (by omega) (by omega)
            have h4 : c.toNat * 256 ^ k ≤ 255 * 256 ^ k := Nat.mul_le_mul_right _ (by have := c.toNat_lt; omega)
            have : (256 : Nat) ^ 6 = 281474976710656 := by decide
            omega
      · rintro (h | h)
        · exact .inl (by rw [show c = 0 from UInt8.toNat_inj.1 h.2]; rfl)
        · have hk : k = 7 := by omega
          subst hk
          exact .inr (by rw [ep]; omega)
/-- three results -/
def tri (a : Int × Int × Int) : V := .tu [.i .i64 a.1, .i .i64 a.2.1, .i .i64 a.2.2]
def triT (a : List UInt8 × Int × Int) : V := .tu [sv a.1, .i .i64 a.2.1, .i .i64 a.2.2]
theorem u8_mod (n : Nat) : UInt8.ofNat (n % 256) = UInt8.ofNat n := UInt8.toNat_inj.1 (by simp)
theorem drop_set1 {α : Type} (xs : List α) (j : Nat) (y : α) (h : j < xs.length) : (xs.set j y).drop j = y :: xs.drop (j + 1) := by
  rw [List.drop_eq_getElem_cons (by rw [List.length_set]; exact h), List.drop_set_of_lt (by omega)]
  simp
end Go.Ev
