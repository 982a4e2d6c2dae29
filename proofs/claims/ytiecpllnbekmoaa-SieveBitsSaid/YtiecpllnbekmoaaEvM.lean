/-
  Code at states that are terms: frames by slots; rules for sequences, conditions, blocks, loops, regions; functions by their specifications.
-/
import Derived.Test.YtiecpllnbekmoaaEvK
set_option linter.all false
namespace Go.Ev
open Go

/-! ### Frames -/
noncomputable def put (n : Nat) (v : V) (t : F) : F := Classical.choose (sPut_ok (slOf n) v t)
noncomputable def get (n : Nat) (t : F) : V := sGet (slOf n) t
theorem sPut_put (n : Nat) (v : V) (t : F) (k : F → Bool) : sPut (slOf n) v t k = k (put n v t) := (Classical.choose_spec (sPut_ok (slOf n) v t)).1 k
theorem get_put (n m : Nat) (v : V) (t : F) (hn : n < 512) (hm : m < 512) : get n (put m v t) = if n = m then v else get n t := by
  have h := Classical.choose_spec (sPut_ok (slOf m) v t)
  by_cases e : n = m
  · subst e; rw [if_pos rfl]; exact h.2.1
  · rw [if_neg e]; exact h.2.2 _ fun he => e (slOf_inj hn hm he)
noncomputable def slotsF : List V → Nat → F → F
  | [], _, t => t
  | v :: vs, n, t => slotsF vs (n + 1) (put n v t)
theorem slots_slotsF : ∀ (vs : List V) (n : Nat) (t : F) (k : F → Bool), slots vs n t k = k (slotsF vs n t)
  | [], _, _, _ => rfl
  | v :: vs, n, t, k => by
    have e : slots (v :: vs) n t k = sPut (slOf n) v t fun t => slots vs (n + 1) t k := rfl
    rw [e, sPut_put, slots_slotsF vs]; rfl
abbrev tm (n : Nat) : O := .t (slOf n)
theorem oV_t (n : Nat) (t : F) : oV (.t (slOf n)) t = get n t := rfl
theorem oV_c (v : V) (t : F) : oV (.c v) t = v := rfl

/-! ### Code -/
def Steps (P : Program) (nt : Nat) (c : Code) (t : F) (h : H) (x : X) (t' : F) (h' : H) : Prop := KeepF h h' ∧ B.val h.next ≤ B.val h'.next ∧ CodeSound P nt c t h x t' h'
/-- the code that is compiled as 'cc' comes, from that state, to one of which K holds -/
def Ok (P : Program) (nt : Nat) (cc : CC) (t : F) (h : H) (K : X → F → H → Prop) : Prop := ∃ x t' h', (∀ c, comp P nt c = cc → Steps P nt c t h x t' h') ∧ K x t' h'

theorem Ok.mono {P : Program} {nt : Nat} {cc : CC} {t : F} {h : H} {K K' : X → F → H → Prop} (a : Ok P nt cc t h K) (hk : ∀ x t h, K x t h → K' x t h) : Ok P nt cc t h K' := by
  obtain ⟨x, t', h', a1, a2⟩ := a
  exact ⟨x, t', h', a1, hk _ _ _ a2⟩

theorem Steps.scope {P : Program} {nt : Nat} {c : Code} {t : F} {h : H} {x : X} {t' : F} {h' : H} (a : Steps P nt c t h x t' h') : Steps P nt (.scope c) t h x t' h' := by
  obtain ⟨a2, a3, a4⟩ := a
  refine ⟨a2, a3, fun ρ a w w0 Q A R hQ => wp_scope_straight (a4 ρ a w w0 _ A R fun ρ' a' w' l1 A' R' => ?_)⟩
  have := hQ ρ' a' w' l1 A' R'
  cases x <;> exact this
theorem Steps.trans {P : Program} {nt : Nat} {c1 c2 : Code} {t t1 t2 : F} {h h1 h2 : H} {x : X} (a : Steps P nt c1 t h .normal t1 h1) (b : Steps P nt c2 t1 h1 x t2 h2) : Steps P nt (.seq c1 c2) t h x t2 h2 := by
  obtain ⟨a2, a3, a4⟩ := a
  obtain ⟨b2, b3, b4⟩ := b
  refine ⟨KeepF.trans a2 a3 b2, Nat.le_trans a3 b3, fun ρ a w w0 Q A R hQ => ?_⟩
  refine wp_seq (a4 ρ a w w0 _ A R fun ρ' a' w' l1 A' R' => ?_)
  exact b4 ρ' a' w' w0 Q A' R' fun ρ'' a'' w'' l2 A'' R'' => hQ ρ'' a'' w'' (l1.trans (by rw [← a2.1]; exact l2)) A'' R''

/-- what is compiled so is code of that kind, but for scopes -/
theorem by_scopes {P : Program} {nt : Nat} {t : F} {h : H} {x : X} {t' : F} {h' : H} (cc : CC)
    (base : ∀ c, comp P nt c = cc → (∀ d, c ≠ .scope d) → Steps P nt c t h x t' h') : ∀ c, comp P nt c = cc → Steps P nt c t h x t' h' := by
  intro c
  induction c with
  | scope d ih => intro e; exact (ih e).scope
  | _ => intro e; exact base _ e (fun d hd => by cases hd)

section
variable {P : Program} {nt : Nat} {t : F} {h : H} {K : X → F → H → Prop}

theorem Ok.skip (k : K .normal t h) : Ok P nt .skip t h K := by
  refine ⟨.normal, t, h, by_scopes _ fun c e hs => ?_, k⟩
  have r : ∀ c, (c = .skip ∨ ∃ l, c = .label l) → Steps P nt c t h .normal t h := by
    rintro c (rfl | ⟨l, rfl⟩)
    · exact ⟨KeepF.refl h, Nat.le_refl _, fun ρ a w w0 Q A R hQ => wp_skip (hQ ρ a w (Ext.refl _ ρ) A R)⟩
    · exact ⟨KeepF.refl h, Nat.le_refl _, fun ρ a w w0 Q A R hQ => wp_label (hQ ρ a w (Ext.refl _ ρ) A R)⟩
  cases c with
  | skip => exact r _ (.inl rfl)
  | label l => exact r _ (.inr ⟨l, rfl⟩)
  | scope d => exact absurd rfl (hs d)
  | region id ops draw =>
    have e' : compRegion P nt ops.toList draw = .skip := e
    unfold compRegion at e'
    split at e'
    · cases e'
    · split at e' <;> cases e'
  | _ => cases e

theorem Ok.exit {id : Nat} (k : K (.exit id) t h) : Ok P nt (.exit id) t h K := by
  refine ⟨.exit id, t, h, by_scopes _ fun c e hs => ?_, k⟩
  cases c with
  | exit j => cases e; exact ⟨KeepF.refl h, Nat.le_refl _, fun ρ a w w0 Q A R hQ => wp_exit (hQ ρ a w (Ext.refl _ ρ) A R)⟩
  | scope d => exact absurd rfl (hs d)
  | region id ops draw =>
    have e' : compRegion P nt ops.toList draw = .exit _ := e
    unfold compRegion at e'
    split at e'
    · cases e'
    · split at e' <;> cases e'
  | _ => cases e

theorem Ok.ret (k : K .ret t h) : Ok P nt .ret t h K := by
  refine ⟨.ret, t, h, by_scopes _ fun c e hs => ?_, k⟩
  cases c with
  | ret => exact ⟨KeepF.refl h, Nat.le_refl _, fun ρ a w w0 Q A R hQ => wp_ret (hQ ρ a w (Ext.refl _ ρ) A R)⟩
  | scope d => exact absurd rfl (hs d)
  | region id ops draw =>
    have e' : compRegion P nt ops.toList draw = .ret := e
    unfold compRegion at e'
    split at e'
    · cases e'
    · split at e' <;> cases e'
  | _ => cases e

/-- behind the first part -/
def Then (K' : F → H → Prop) (K : X → F → H → Prop) : X → F → H → Prop
  | .normal, t, h => K' t h
  | x, t, h => K x t h

theorem Ok.seq {a b : CC} (k : Ok P nt a t h (Then (fun t h => Ok P nt b t h K) K)) : Ok P nt (.seq a b) t h K := by
  obtain ⟨x, t1, h1, a1, a2⟩ := k
  have inv : ∀ c, comp P nt c = .seq a b → (∀ d, c ≠ .scope d) → ∃ c1 c2, c = .seq c1 c2 ∧ comp P nt c1 = a ∧ comp P nt c2 = b := by
    intro c e hs
    cases c with
    | seq c1 c2 => cases e; exact ⟨c1, c2, rfl, rfl, rfl⟩
    | scope d => exact absurd rfl (hs d)
    | region id ops draw =>
      have e' : compRegion P nt ops.toList draw = .seq a b := e
      unfold compRegion at e'
      split at e'
      · cases e'
      · split at e' <;> cases e'
    | _ => cases e
  cases x with
  | normal =>
    obtain ⟨x2, t2, h2, b1, b2⟩ := a2
    refine ⟨x2, t2, h2, by_scopes _ fun c e hs => ?_, b2⟩
    obtain ⟨c1, c2, rfl, e1, e2⟩ := inv c e hs
    exact (a1 c1 e1).trans (b1 c2 e2)
  | exit id =>
    refine ⟨_, t1, h1, by_scopes _ fun c e hs => ?_, a2⟩
    obtain ⟨c1, c2, rfl, e1, e2⟩ := inv c e hs
    obtain ⟨s1, s2, s3⟩ := a1 c1 e1
    exact ⟨s1, s2, fun ρ a w w0 Q A R hQ => wp_seq (s3 ρ a w w0 _ A R fun ρ' a' w' l1 A' R' => hQ ρ' a' w' l1 A' R')⟩
  | ret =>
    refine ⟨_, t1, h1, by_scopes _ fun c e hs => ?_, a2⟩
    obtain ⟨c1, c2, rfl, e1, e2⟩ := inv c e hs
    obtain ⟨s1, s2, s3⟩ := a1 c1 e1
    exact ⟨s1, s2, fun ρ a w w0 Q A R hQ => wp_seq (s3 ρ a w w0 _ A R fun ρ' a' w' l1 A' R' => hQ ρ' a' w' l1 A' R')⟩

theorem Ok.cond {o : O} {a b : CC} {q : Bool} (hq : oV o t = .b q) (ha : q = true → Ok P nt a t h K) (hb : q = false → Ok P nt b t h K) : Ok P nt (.cond o a b) t h K := by
  have inv : ∀ c, comp P nt c = .cond o a b → (∀ d, c ≠ .scope d) → ∃ x c1 c2, c = .cond x c1 c2 ∧ compO x = o ∧ comp P nt c1 = a ∧ comp P nt c2 = b := by
    intro c e hs
    cases c with
    | cond x c1 c2 => cases e; exact ⟨x, c1, c2, rfl, rfl, rfl, rfl⟩
    | scope d => exact absurd rfl (hs d)
    | region id ops draw =>
      have e' : compRegion P nt ops.toList draw = .cond o a b := e
      unfold compRegion at e'
      split at e'
      · cases e'
      · split at e' <;> cases e'
    | _ => cases e
  have hev : ∀ x, compO x = o → ∀ ρ a, ARel ρ nt t a → a.eval x = .bool q := fun x hx ρ a A => by
    have := opnd_rel A x
    rw [hx, hq] at this; exact this
  cases q with
  | true =>
    obtain ⟨x, t1, h1, a1, a2⟩ := ha rfl
    refine ⟨x, t1, h1, by_scopes _ fun c e hs => ?_, a2⟩
    obtain ⟨y, c1, c2, rfl, e0, e1, e2⟩ := inv c e hs
    obtain ⟨s1, s2, s3⟩ := a1 c1 e1
    exact ⟨s1, s2, fun ρ a w w0 Q A R hQ => wp_cond_true (hev y e0 ρ a A) (s3 ρ a w w0 Q A R hQ)⟩
  | false =>
    obtain ⟨x, t1, h1, a1, a2⟩ := hb rfl
    refine ⟨x, t1, h1, by_scopes _ fun c e hs => ?_, a2⟩
    obtain ⟨y, c1, c2, rfl, e0, e1, e2⟩ := inv c e hs
    obtain ⟨s1, s2, s3⟩ := a1 c2 e2
    exact ⟨s1, s2, fun ρ a w w0 Q A R hQ => wp_cond_false (hev y e0 ρ a A) (s3 ρ a w w0 Q A R hQ)⟩

/-- out of a block -/
def Out (id : Nat) (K : X → F → H → Prop) : X → F → H → Prop
  | .exit j, t, h => if j = id then K .normal t h else K (.exit j) t h
  | x, t, h => K x t h

theorem Ok.block {id : Nat} {a : CC} (k : Ok P nt a t h (Out id K)) : Ok P nt (.block id a) t h K := by
  obtain ⟨x, t1, h1, a1, a2⟩ := k
  have inv : ∀ c, comp P nt c = .block id a → (∀ d, c ≠ .scope d) → ∃ c1, c = .block id c1 ∧ comp P nt c1 = a := by
    intro c e hs
    cases c with
    | block j c1 => cases e; exact ⟨c1, rfl, rfl⟩
    | scope d => exact absurd rfl (hs d)
    | region id ops draw =>
      have e' : compRegion P nt ops.toList draw = .block _ a := e
      unfold compRegion at e'
      split at e'
      · cases e'
      · split at e' <;> cases e'
    | _ => cases e
  cases x with
  | normal =>
    refine ⟨_, t1, h1, by_scopes _ fun c e hs => ?_, a2⟩
    obtain ⟨c1, rfl, e1⟩ := inv c e hs
    obtain ⟨s1, s2, s3⟩ := a1 c1 e1
    exact ⟨s1, s2, fun ρ a w w0 Q A R hQ => wp_block (s3 ρ a w w0 _ A R fun ρ' a' w' l1 A' R' => hQ ρ' a' w' l1 A' R')⟩
  | ret =>
    refine ⟨_, t1, h1, by_scopes _ fun c e hs => ?_, a2⟩
    obtain ⟨c1, rfl, e1⟩ := inv c e hs
    obtain ⟨s1, s2, s3⟩ := a1 c1 e1
    exact ⟨s1, s2, fun ρ a w w0 Q A R hQ => wp_block (s3 ρ a w w0 _ A R fun ρ' a' w' l1 A' R' => hQ ρ' a' w' l1 A' R')⟩
  | exit j =>
    by_cases hj : j = id
    · have a2' : K .normal t1 h1 := by
        have : (if j = id then K .normal t1 h1 else K (.exit j) t1 h1) := a2
        rwa [if_pos hj] at this
      refine ⟨_, t1, h1, by_scopes _ fun c e hs => ?_, a2'⟩
      obtain ⟨c1, rfl, e1⟩ := inv c e hs
      obtain ⟨s1, s2, s3⟩ := a1 c1 e1
      refine ⟨s1, s2, fun ρ a w w0 Q A R hQ => wp_block (s3 ρ a w w0 _ A R fun ρ' a' w' l1 A' R' => ?_)⟩
      show (if j = id then Q .normal a' w' else Q (.exit j) a' w')
      rw [if_pos hj]; exact hQ ρ' a' w' l1 A' R'
    · have a2' : K (.exit j) t1 h1 := by
        have : (if j = id then K .normal t1 h1 else K (.exit j) t1 h1) := a2
        rwa [if_neg hj] at this
      refine ⟨_, t1, h1, by_scopes _ fun c e hs => ?_, a2'⟩
      obtain ⟨c1, rfl, e1⟩ := inv c e hs
      obtain ⟨s1, s2, s3⟩ := a1 c1 e1
      refine ⟨s1, s2, fun ρ a w w0 Q A R hQ => wp_block (s3 ρ a w w0 _ A R fun ρ' a' w' l1 A' R' => ?_)⟩
      show (if j = id then Q .normal a' w' else Q (.exit j) a' w')
      rw [if_neg hj]; exact hQ ρ' a' w' l1 A' R'

end

/-- a loop: 'Inv m' holds at each round's head, and m falls -/
theorem Ok.loop {P : Program} {nt : Nat} {a : CC} {K : X → F → H → Prop} (Inv : Nat → F → H → Prop)
    (round : ∀ m t h, Inv m t h → Ok P nt a t h (Then (fun t' h' => ∃ m', m' < m ∧ Inv m' t' h') K)) : ∀ m t h, Inv m t h → Ok P nt (.loop a) t h K := by
  have inv : ∀ c, comp P nt c = .loop a → (∀ d, c ≠ .scope d) → ∃ c1, c = .loop c1 ∧ comp P nt c1 = a := by
    intro c e hs
    cases c with
    | loop c1 => cases e; exact ⟨c1, rfl, rfl⟩
    | scope d => exact absurd rfl (hs d)
    | region id ops draw =>
      have e' : compRegion P nt ops.toList draw = .loop a := e
      unfold compRegion at e'
      split at e'
      · cases e'
      · split at e' <;> cases e'
    | _ => cases e
  have main : ∀ n m t h, m ≤ n → Inv m t h → ∃ x t' h', (∀ c, comp P nt c = a → KeepF h h' ∧ B.val h.next ≤ B.val h'.next ∧ LoopSound P nt c t h x t' h') ∧ K x t' h' := by
    intro n
    induction n with
    | zero =>
      intro m t h hm hI
      obtain ⟨x, t1, h1, a1, a2⟩ := round m t h hI
      cases x with
      | normal => obtain ⟨m', hm', _⟩ := a2; omega
      | exit id => exact ⟨_, t1, h1, fun c e => ⟨(a1 c e).1, (a1 c e).2.1, fun ρ a w w0 Q A R hQ => loopArr_of ((a1 c e).2.2 ρ a w w0 _ A R fun ρ' a' w' l1 A' R' => hQ ρ' a' w' l1 A' R')⟩, a2⟩
      | ret => exact ⟨_, t1, h1, fun c e => ⟨(a1 c e).1, (a1 c e).2.1, fun ρ a w w0 Q A R hQ => loopArr_of ((a1 c e).2.2 ρ a w w0 _ A R fun ρ' a' w' l1 A' R' => hQ ρ' a' w' l1 A' R')⟩, a2⟩
    | succ n ih =>
      intro m t h hm hI
      obtain ⟨x, t1, h1, a1, a2⟩ := round m t h hI
      cases x with
      | normal =>
        obtain ⟨m', hm', hI'⟩ := a2
        obtain ⟨x2, t2, h2, b1, b2⟩ := ih m' t1 h1 (by omega) hI'
        refine ⟨x2, t2, h2, fun c e => ?_, b2⟩
        obtain ⟨s1, s2, s3⟩ := a1 c e
        obtain ⟨r1, r2, r3⟩ := b1 c e
        refine ⟨KeepF.trans s1 s2 r1, Nat.le_trans s2 r2, fun ρ a w w0 Q A R hQ => ?_⟩
        refine loopArr_of (s3 ρ a w w0 _ A R fun ρ' a' w' l1 A' R' => ?_)
        exact r3 ρ' a' w' w0 Q A' R' fun ρ'' a'' w'' l2 A'' R'' => hQ ρ'' a'' w'' (l1.trans (by rw [← s1.1]; exact l2)) A'' R''
      | exit id => exact ⟨_, t1, h1, fun c e => ⟨(a1 c e).1, (a1 c e).2.1, fun ρ a w w0 Q A R hQ => loopArr_of ((a1 c e).2.2 ρ a w w0 _ A R fun ρ' a' w' l1 A' R' => hQ ρ' a' w' l1 A' R')⟩, a2⟩
      | ret => exact ⟨_, t1, h1, fun c e => ⟨(a1 c e).1, (a1 c e).2.1, fun ρ a w w0 Q A R hQ => loopArr_of ((a1 c e).2.2 ρ a w w0 _ A R fun ρ' a' w' l1 A' R' => hQ ρ' a' w' l1 A' R')⟩, a2⟩
  intro m t h hI
  obtain ⟨x, t', h', a1, a2⟩ := main m m t h (Nat.le_refl _) hI
  refine ⟨x, t', h', by_scopes _ fun c e hs => ?_, a2⟩
  obtain ⟨c1, rfl, e1⟩ := inv c e hs
  obtain ⟨s1, s2, s3⟩ := a1 c1 e1
  exact ⟨s1, s2, fun ρ a w w0 Q A R hQ => wp_loop_of (s3 ρ a w w0 Q A R hQ)⟩

/-! ### Functions -/
def FnRes (P : Program) (f : FuncId) (vs : List V) (h : H) (v : V) (h' : H) : Prop := KeepF h h' ∧ B.val h.next ≤ B.val h'.next ∧
  ∀ ρ w w0 args, LRel ρ vs args → HRel ρ h w w0 →
    (callFunc f args.toArray).run P w = .ok (.enter f args.toArray) w ∧ Calls P f args.toArray w fun e w' => ∃ x, e = .returned x ∧ Done h.floor ρ w0 v h' x w'
def FnOk (P : Program) (f : FuncId) (vs : List V) (h : H) (K : V → H → Prop) : Prop := ∃ v h', FnRes P f vs h v h' ∧ K v h'
theorem FnOk.mono {P : Program} {f : FuncId} {vs : List V} {h : H} {K K' : V → H → Prop} (a : FnOk P f vs h K) (hk : ∀ v h, K v h → K' v h) : FnOk P f vs h K' := by
  obtain ⟨v, h', a1, a2⟩ := a
  exact ⟨v, h', a1, hk _ _ a2⟩

abbrev Spec := FuncId → List V → H → V → H → Prop
open Classical in
/-- calls by their specifications -/
noncomputable def cfS (P : Program) (S : Spec) : CallF := fun f vs h k => if e : ∃ r : V × H, FnRes P f vs h r.1 r.2 ∧ S f vs h r.1 r.2 then k (Classical.choose e).1 (Classical.choose e).2 else false
theorem cfS_ok (P : Program) (S : Spec) : CfOk P (cfS P S) := by
  intro f vs h k hk
  unfold cfS at hk
  split at hk
  · rename_i e
    have := (Classical.choose_spec e).1
    refine ⟨_, _, fun k' => ?_, this.1, this.2.1, this.2.2⟩
    · unfold cfS; rw [dif_pos e]
  · cases hk
/-- a call: what comes of it is one value, one state, of which the specification holds -/
theorem cfS_call {P : Program} {S : Spec} {f : FuncId} {vs : List V} {h : H} (a : FnOk P f vs h (S f vs h)) : ∃ v h', (∀ k, cfS P S f vs h k = k v h') ∧ S f vs h v h' := by
  have e : ∃ r : V × H, FnRes P f vs h r.1 r.2 ∧ S f vs h r.1 r.2 := by
    obtain ⟨v, h', a1, a2⟩ := a
    exact ⟨(v, h'), a1, a2⟩
  exact ⟨_, _, fun k => by unfold cfS; rw [dif_pos e], (Classical.choose_spec e).2⟩

section
variable {P : Program} {nt : Nat} {t : F} {h : H} {K : X → F → H → Prop}
theorem Ok.region {S : Spec} {ops : List CO} {t' : F} {h' : H} (e : ∀ k : F → H → Bool, execOps (cfS P S) ops t h k = k t' h') (k : K .normal t' h') : Ok P nt (.region ops) t h K := by
  refine ⟨.normal, t', h', by_scopes _ fun c e' hs => ?_, k⟩
  cases c with
  | region id os draw =>
    have e1 : compRegion P nt os.toList draw = .region ops := e'
    unfold compRegion at e1
    split at e1
    · cases e1
      obtain ⟨t1, h1, a1, a2, a3, a4⟩ := ops_ok (cfS_ok P S) (fun _ => true) os.toList 0 (by simp) t h (fun _ _ => true) (e _)
      have hth : t1 = t' ∧ h1 = h' := by
        have := (a1 fun t2 h2 => @decide (t2 = t1 ∧ h2 = h1) (Classical.propDecidable _))
        rw [e] at this
        simp at this
        exact ⟨this.1.symm, this.2.symm⟩
      obtain ⟨rfl, rfl⟩ := hth
      refine ⟨a2, a3, fun ρ a w w0 Q A R hQ => wp_region ?_⟩
      have := a4 ρ a w w0 Q A R hQ
      rwa [show List.range' 0 os.toList.length = List.range os.size by rw [List.range_eq_range']; simp] at this
    · split at e1 <;> cases e1
  | scope d => exact absurd rfl (hs d)
  | _ => cases e'

theorem Ok.draws {S : Spec} (hm : P.follows .mixedOrders = true) {ops : List CO} {t' : F} {h' : H} (e : ∀ k : F → H → Bool, execDr (cfS P S) ops t h k = k t' h') (k : K .normal t' h') : Ok P nt (.draws ops) t h K := by
  refine ⟨.normal, t', h', by_scopes _ fun c e' hs => ?_, k⟩
  cases c with
  | region id os draw =>
    have e1 : compRegion P nt os.toList draw = .draws ops := e'
    unfold compRegion at e1
    split at e1
    · cases e1
    · split at e1
      · rename_i hd
        cases e1
        obtain ⟨t1, h1, a1, a2, a3, a4⟩ := draws_ok hm (cfS_ok P S) hd (e fun _ _ => true)
        have hth : t1 = t' ∧ h1 = h' := by
          have := (a1 fun t2 h2 => @decide (t2 = t1 ∧ h2 = h1) (Classical.propDecidable _))
          rw [e] at this
          simp at this
          exact ⟨this.1.symm, this.2.symm⟩
        obtain ⟨rfl, rfl⟩ := hth
        exact ⟨a2, a3, fun ρ a w w0 Q A R hQ => a4 ρ a w w0 id Q A R hQ⟩
      · cases e1
  | scope d => exact absurd rfl (hs d)
  | _ => cases e'
end

/-- A FUNCTION: its body from its arguments on -/
theorem fn_ok {P : Program} {f : FuncId} {fn : Func} {body : Code} {cc : CC} {rs : List Rs} {vs : List V} {h : H} {K : V → H → Prop} (hfn : P.funcs.toList[f]? = some fn) (hb : fn.body = some body) (hnm : (fn.name == "runtime.NumGoroutine") = false)
    (hcc : comp P fn.ntmps body = cc) (hrs : fn.results.toList.map (rsOf P) = rs) (hl1 : vs.length ≤ fn.ntmps) (hl2 : vs.length ≤ 512)
    (ok : Ok P fn.ntmps cc (slotsF vs 0 F.zero) h fun x t' h' => match x with
      | .exit _ => False
      | _ => ∃ us, (∀ k : List V → Bool, resK rs t' h' k = k us) ∧ K (one us) h') : FnOk P f vs h K := by
  obtain ⟨x, t', h', s, k⟩ := ok
  obtain ⟨x2, x3, x4⟩ := s body hcc
  have hfn' : P.funcs[f]? = some fn := by simpa using hfn
  have hx : (x = .normal ∨ x = .ret) ∧ ∃ us, (∀ k : List V → Bool, resK rs t' h' k = k us) ∧ K (one us) h' := by
    cases x with
    | exit id => exact k.elim
    | normal => exact ⟨.inl rfl, k⟩
    | ret => exact ⟨.inr rfl, k⟩
  obtain ⟨r2, us, r1, kk⟩ := hx
  obtain ⟨us', q1, q2⟩ := results_ok (nt := fn.ntmps) (fn := fn) (P := P) (t := t') (h := h') (k := fun _ => true) (by rw [hrs, r1])
  have hus : us' = us := by
    have := q1 fun u => @decide (u = us') (Classical.propDecidable _)
    rw [hrs, r1] at this
    simp at this
    exact this.symm
  subst hus
  refine ⟨one us', h', ⟨x2, x3, fun ρ w w0 args hargs R => ?_⟩, kk⟩
  have hal := hargs.length
  obtain ⟨t0, s1, s2, s3⟩ := slots_ok vs 0 F.zero (fun _ => true) (by omega)
  have ht0 : t0 = slotsF vs 0 F.zero := by
    have := s1 fun u => @decide (u = t0) (Classical.propDecidable _)
    rw [slots_slotsF] at this
    simp at this
    exact this.symm
  constructor
  · have hp : (program : Sem Program).run P w = .ok P w := rfl
    unfold callFunc
    simp only [Sem.run_bind, hp, Result.andThen_ok, hfn', hnm, Bool.false_eq_true, if_false, hb, Option.isNone_some]
    rfl
  · refine calls_of_wp hfn' hb ?_
    have A0 : ARel ρ fn.ntmps t0 { tmps := args.toArray ++ Array.replicate (fn.ntmps - args.toArray.size) undef, defers := [] } := by
      refine ⟨rfl, by simp; omega, fun m hm => ?_⟩
      by_cases hmv : m < vs.length
      · have hv : vs[m]? = some (vs[m]'hmv) := by simp
        obtain ⟨y, y1, y2⟩ := hargs.get hv
        have := s2 m _ hv
        rw [Nat.zero_add] at this
        rw [this]
        have hy : (args.toArray ++ Array.replicate (fn.ntmps - args.toArray.size) undef).getD m undef = y := by
          have hma : m < args.length := by omega
          rw [Array.getD_eq_getD_getElem?, Array.getElem?_append_left (by simpa using hma)]
          simp [y1]
        rw [hy]; exact y2
      · rw [s3 m hm (.inr (by omega)), zero_slot]; trivial
    rw [ht0] at A0
    refine x4 ρ _ w w0 _ A0 R fun ρ' a' w' hle A' R' => ?_
    obtain ⟨y, y1, y2⟩ := q2 ρ' a' w' w0 A' R'
    rcases r2 with rfl | rfl
    · exact ⟨A'.defers, y, y2, y, rfl, ρ', hle, y1, R'⟩
    · exact ⟨A'.defers, y, y2, y, rfl, ρ', hle, y1, R'⟩

/-- a function that the evaluator ran -/
theorem FnOk.of_pure {P : Program} {f : FuncId} (p : PureTrue P f) (h : H) : FnOk P f [] h fun v h' => v = .b true ∧ h' = h := by
  refine ⟨.b true, h, ⟨KeepF.refl h, Nat.le_refl _, fun ρ w w0 args hargs R => ?_⟩, rfl, rfl⟩
  have ha : args = [] := by cases args <;> first | rfl | exact hargs.elim
  subst ha
  obtain ⟨p1, p2⟩ := p w
  refine ⟨p1, p2.mono fun e w' he => ?_⟩
  obtain ⟨rfl, s1, s2, s3, s4, s5⟩ := he
  exact ⟨_, rfl, ρ, Ext.refl _ ρ, rfl, R.grow s1 s2 s3 s4 s5⟩

end Go.Ev
