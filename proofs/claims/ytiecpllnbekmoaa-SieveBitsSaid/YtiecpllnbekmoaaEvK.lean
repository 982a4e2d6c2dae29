/-
  The evaluator against the model: all code; what a run of the evaluator says of a call.
-/
import Derived.Test.YtiecpllnbekmoaaEvJ
import Derived.Scope
set_option linter.all false
namespace Go.Ev
open Go

theorem region_ok {tb : Nat → Bool} {P : Program} (htb : ∀ f, tb f = true → PureTrue P f) (hm : P.follows .mixedOrders = true) {n : Nat} (hE : ExOk tb P n) (nt id : Nat) (ops : Array Oper) (draw : Bool) (t : F) (h : H) (k : X → F → H → Bool)
    (hk : exec tb (compFn P) (n + 1) (comp P nt (.region id ops draw)) t h k = true) :
    ∃ x t' h', (∀ k', exec tb (compFn P) (n + 1) (comp P nt (.region id ops draw)) t h k' = k' x t' h') ∧ KeepF h h' ∧ B.val h.next ≤ B.val h'.next ∧ CodeSound P nt (.region id ops draw) t h x t' h' := by
  cases draw with
  | false =>
    have e : ∀ k', exec tb (compFn P) (n + 1) (comp P nt (.region id ops false)) t h k' = execOps (callF tb (exec tb (compFn P) n) (compFn P)) (compOpsWith (fun _ => true) P nt ops.toList (compOp P) 0 ops.toList) t h (regK k') := fun _ => rfl
    rw [e] at hk
    obtain ⟨t', h', a1, a2, a3, a4⟩ := ops_ok (cf_ok htb hE) (fun _ => true) ops.toList 0 (by simp) t h _ hk
    refine ⟨.normal, t', h', fun k' => by rw [e, a1]; rfl, a2, a3, fun ρ a w w0 Q A R hQ => ?_⟩
    refine wp_region ?_
    have := a4 ρ a w w0 Q A R hQ
    rwa [show List.range' 0 ops.toList.length = List.range ops.size by rw [List.range_eq_range']; simp] at this
  | true =>
    cases hd : drawsOk ops.toList with
    | false =>
      have e : comp P nt (.region id ops true) = .bad := by
        show compRegion P nt ops.toList true = .bad
        simp only [compRegion, hd]
      rw [e] at hk; exact Bool.noConfusion hk
    | true =>
      have e0 : comp P nt (.region id ops true) = .draws (compOpsWith (barAt P ops.toList (befs ops.toList [])) P nt ops.toList (compOp P) 0 ops.toList) := by
        show compRegion P nt ops.toList true = _
        simp only [compRegion, hd]
      have e : ∀ k', exec tb (compFn P) (n + 1) (comp P nt (.region id ops true)) t h k' = execDr (callF tb (exec tb (compFn P) n) (compFn P)) (compOpsWith (barAt P ops.toList (befs ops.toList [])) P nt ops.toList (compOp P) 0 ops.toList) t h (regK k') := by
        intro k'; rw [e0]; rfl
      rw [e] at hk
      obtain ⟨t', h', a1, a2, a3, a4⟩ := draws_ok hm (cf_ok htb hE) hd hk
      exact ⟨.normal, t', h', fun k' => by rw [e, a1]; rfl, a2, a3, fun ρ a w w0 Q A R hQ => a4 ρ a w w0 id Q A R hQ⟩

theorem exec_ok {tb : Nat → Bool} {P : Program} (htb : ∀ f, tb f = true → PureTrue P f) (hm : P.follows .mixedOrders = true) : ∀ n, ExOk tb P n ∧ LpOk tb P n := by
  intro n
  induction n with
  | zero => exact ⟨fun nt c t h k hk => Bool.noConfusion hk, fun nt c t h k hk => Bool.noConfusion hk⟩
  | succ n ih =>
    obtain ⟨hE, hL⟩ := ih
    have hLp : LpOk tb P (n + 1) := by
      intro nt c t h k hk
      have e : ∀ k', exec tb (compFn P) (n + 1) (.loop (comp P nt c)) t h k' = exec tb (compFn P) n (comp P nt c) t h (loopK (exec tb (compFn P) n) (comp P nt c) k') := fun _ => rfl
      rw [e] at hk
      obtain ⟨x, t1, h1, a1, a2, a3, a4⟩ := hE nt c t h _ hk
      rw [a1] at hk
      cases x with
      | normal =>
        have e2 : ∀ k', loopK (exec tb (compFn P) n) (comp P nt c) k' .normal t1 h1 = exec tb (compFn P) n (.loop (comp P nt c)) t1 h1 k' := fun _ => rfl
        rw [e2] at hk
        obtain ⟨x2, t2, h2, b1, b2, b3, b4⟩ := hL nt c t1 h1 k hk
        refine ⟨x2, t2, h2, fun k' => by rw [e, a1, e2, b1], KeepF.trans a2 a3 b2, Nat.le_trans a3 b3, fun ρ a w w0 Q A R hQ => ?_⟩
        refine loopArr_of (a4 ρ a w w0 _ A R fun ρ' a' w' l1 A' R' => ?_)
        exact b4 ρ' a' w' w0 Q A' R' fun ρ'' a'' w'' l2 A'' R'' => hQ ρ'' a'' w'' (l1.trans (by rw [← a2.1]; exact l2)) A'' R''
      | exit id =>
        refine ⟨.exit id, t1, h1, fun k' => by rw [e, a1]; rfl, a2, a3, fun ρ a w w0 Q A R hQ => ?_⟩
        exact loopArr_of (a4 ρ a w w0 _ A R fun ρ' a' w' l1 A' R' => hQ ρ' a' w' l1 A' R')
      | ret =>
        refine ⟨.ret, t1, h1, fun k' => by rw [e, a1]; rfl, a2, a3, fun ρ a w w0 Q A R hQ => ?_⟩
        exact loopArr_of (a4 ρ a w w0 _ A R fun ρ' a' w' l1 A' R' => hQ ρ' a' w' l1 A' R')
    refine ⟨fun nt c => ?_, hLp⟩
    induction c with
    | skip => intro t h k hk; exact ⟨.normal, t, h, fun _ => rfl, KeepF.refl h, Nat.le_refl _, fun ρ a w w0 Q A R hQ => wp_skip (hQ ρ a w (Ext.refl _ ρ) A R)⟩
    | label l => intro t h k hk; exact ⟨.normal, t, h, fun _ => rfl, KeepF.refl h, Nat.le_refl _, fun ρ a w w0 Q A R hQ => wp_label (hQ ρ a w (Ext.refl _ ρ) A R)⟩
    | exit id => intro t h k hk; exact ⟨.exit id, t, h, fun _ => rfl, KeepF.refl h, Nat.le_refl _, fun ρ a w w0 Q A R hQ => wp_exit (hQ ρ a w (Ext.refl _ ρ) A R)⟩
    | ret => intro t h k hk; exact ⟨.ret, t, h, fun _ => rfl, KeepF.refl h, Nat.le_refl _, fun ρ a w w0 Q A R hQ => wp_ret (hQ ρ a w (Ext.refl _ ρ) A R)⟩
    | goto l => intro t h k hk; exact Bool.noConfusion hk
    | refuse s => intro t h k hk; exact Bool.noConfusion hk
    | rangeFunc f ps x y ihx ihy => intro t h k hk; exact Bool.noConfusion hk
    | region id ops draw => intro t h k hk; exact region_ok htb hm hE nt id ops draw t h k hk
    | loop c ihc =>
      intro t h k hk
      obtain ⟨x, t', h', a1, a2, a3, a4⟩ := hLp nt c t h k hk
      exact ⟨x, t', h', a1, a2, a3, fun ρ a w w0 Q A R hQ => wp_loop_of (a4 ρ a w w0 Q A R hQ)⟩
    | scope c ihc =>
      intro t h k hk
      obtain ⟨x, t', h', a1, a2, a3, a4⟩ := ihc t h k hk
      refine ⟨x, t', h', a1, a2, a3, fun ρ a w w0 Q A R hQ => wp_scope_straight (a4 ρ a w w0 _ A R fun ρ' a' w' l1 A' R' => ?_)⟩
      have := hQ ρ' a' w' l1 A' R'
      cases x <;> exact this
    | seq c1 c2 ih1 ih2 =>
      intro t h k hk
      have e : ∀ k', exec tb (compFn P) (n + 1) (comp P nt (.seq c1 c2)) t h k' = exec tb (compFn P) n (comp P nt c1) t h (seqK (exec tb (compFn P) n) (comp P nt c2) k') := fun _ => rfl
      rw [e] at hk
      obtain ⟨x, t1, h1, a1, a2, a3, a4⟩ := hE nt c1 t h _ hk
      rw [a1] at hk
      cases x with
      | normal =>
        have e2 : ∀ k', seqK (exec tb (compFn P) n) (comp P nt c2) k' .normal t1 h1 = exec tb (compFn P) n (comp P nt c2) t1 h1 k' := fun _ => rfl
        rw [e2] at hk
        obtain ⟨x2, t2, h2, b1, b2, b3, b4⟩ := hE nt c2 t1 h1 k hk
        refine ⟨x2, t2, h2, fun k' => by rw [e, a1, e2, b1], KeepF.trans a2 a3 b2, Nat.le_trans a3 b3, fun ρ a w w0 Q A R hQ => ?_⟩
        refine wp_seq (a4 ρ a w w0 _ A R fun ρ' a' w' l1 A' R' => ?_)
        exact b4 ρ' a' w' w0 Q A' R' fun ρ'' a'' w'' l2 A'' R'' => hQ ρ'' a'' w'' (l1.trans (by rw [← a2.1]; exact l2)) A'' R''
      | exit id =>
        refine ⟨.exit id, t1, h1, fun k' => by rw [e, a1]; rfl, a2, a3, fun ρ a w w0 Q A R hQ => ?_⟩
        exact wp_seq (a4 ρ a w w0 _ A R fun ρ' a' w' l1 A' R' => hQ ρ' a' w' l1 A' R')
      | ret =>
        refine ⟨.ret, t1, h1, fun k' => by rw [e, a1]; rfl, a2, a3, fun ρ a w w0 Q A R hQ => ?_⟩
        exact wp_seq (a4 ρ a w w0 _ A R fun ρ' a' w' l1 A' R' => hQ ρ' a' w' l1 A' R')
    | cond c c1 c2 ih1 ih2 =>
      intro t h k hk
      have e : ∀ k', exec tb (compFn P) (n + 1) (comp P nt (.cond c c1 c2)) t h k' = oE (compO c) t fun c' => vB c' fun b => condK b (exec tb (compFn P) n) (comp P nt c1) (comp P nt c2) t h k' := fun _ => rfl
      rw [e, oE_eq] at hk
      obtain ⟨b, hb, hk⟩ := vB_ok hk
      have hev : ∀ ρ a, ARel ρ nt t a → a.eval c = .bool b := fun ρ a A => by
        have := opnd_rel A c
        rw [hb] at this; exact this
      cases b with
      | true =>
        have hk' : exec tb (compFn P) n (comp P nt c1) t h k = true := hk
        obtain ⟨x, t1, h1, a1, a2, a3, a4⟩ := hE nt c1 t h k hk'
        exact ⟨x, t1, h1, fun k' => by rw [e, oE_eq, hb, vB_b]; exact a1 k', a2, a3, fun ρ a w w0 Q A R hQ => wp_cond_true (hev ρ a A) (a4 ρ a w w0 Q A R hQ)⟩
      | false =>
        have hk' : exec tb (compFn P) n (comp P nt c2) t h k = true := hk
        obtain ⟨x, t1, h1, a1, a2, a3, a4⟩ := hE nt c2 t h k hk'
        exact ⟨x, t1, h1, fun k' => by rw [e, oE_eq, hb, vB_b]; exact a1 k', a2, a3, fun ρ a w w0 Q A R hQ => wp_cond_false (hev ρ a A) (a4 ρ a w w0 Q A R hQ)⟩
    | block id c ihc =>
      intro t h k hk
      have e : ∀ k', exec tb (compFn P) (n + 1) (comp P nt (.block id c)) t h k' = exec tb (compFn P) n (comp P nt c) t h (blockK id k') := fun _ => rfl
      rw [e] at hk
      obtain ⟨x, t1, h1, a1, a2, a3, a4⟩ := hE nt c t h _ hk
      cases x with
      | normal => exact ⟨.normal, t1, h1, fun k' => by rw [e, a1]; rfl, a2, a3, fun ρ a w w0 Q A R hQ => wp_block (a4 ρ a w w0 _ A R fun ρ' a' w' l1 A' R' => hQ ρ' a' w' l1 A' R')⟩
      | ret => exact ⟨.ret, t1, h1, fun k' => by rw [e, a1]; rfl, a2, a3, fun ρ a w w0 Q A R hQ => wp_block (a4 ρ a w w0 _ A R fun ρ' a' w' l1 A' R' => hQ ρ' a' w' l1 A' R')⟩
      | exit j =>
        have e2 : ∀ k', blockK id k' (.exit j) t1 h1 = blockB (Nat.beq j id) j k' t1 h1 := fun _ => rfl
        cases hj : Nat.beq j id with
        | true =>
          have hji : j = id := Nat.eq_of_beq_eq_true hj
          refine ⟨.normal, t1, h1, fun k' => by rw [e, a1, e2, hj]; rfl, a2, a3, fun ρ a w w0 Q A R hQ => wp_block (a4 ρ a w w0 _ A R fun ρ' a' w' l1 A' R' => ?_)⟩
          show (if j = id then Q .normal a' w' else Q (.exit j) a' w')
          rw [if_pos hji]; exact hQ ρ' a' w' l1 A' R'
        | false =>
          have hji : ¬ j = id := fun h => by rw [h] at hj; simp at hj
          refine ⟨.exit j, t1, h1, fun k' => by rw [e, a1, e2, hj]; rfl, a2, a3, fun ρ a w w0 Q A R hQ => wp_block (a4 ρ a w w0 _ A R fun ρ' a' w' l1 A' R' => ?_)⟩
          show (if j = id then Q .normal a' w' else Q (.exit j) a' w')
          rw [if_neg hji]; exact hQ ρ' a' w' l1 A' R'

def noEmb : Emb := fun _ _ => none
theorem zero_rel0 (w : World) : HRel noEmb H.zero w w :=
  ⟨fun _ _ _ h => (by cases h), fun _ _ _ h => (by cases h), fun _ _ _ _ _ _ h => (by cases h), Nat.le_refl _, fun _ _ => rfl, fun _ _ _ h => (by cases h), rfl, rfl, rfl, Nat.le_refl _, fun _ _ _ h => (by cases h), fun _ _ _ _ _ h => (by cases h)⟩

theorem HRel.same {ρ : Emb} {h : H} {w w0 : World} (R : HRel ρ h w w0) : Same w0 w := ⟨R.old, R.siz, R.tp, R.os, R.out⟩
theorem Same.below {w w' : World} (R : Same w w') : RowKit.Below w.heap.size w w' := ⟨R.2.2.2.1, R.2.2.1, R.2.2.2.2, R.2.1, R.1⟩

/-- WHAT A RUN SAYS: where the evaluator comes to 'true', so does the model's call, whatever the world, and of what was there nothing turns. -/
theorem runs {tb : Nat → Bool} {P : Program} (htb : ∀ f, tb f = true → PureTrue P f) (hm : P.follows .mixedOrders = true) {n : Nat} {f : FuncId} {vs : List V} (h : runFn tb P n f vs = true) {args : List Value} (ha : LRel noEmb vs args) (w : World) :
    (callFunc f args.toArray).run P w = .ok (.enter f args.toArray) w ∧ Calls P f args.toArray w fun e w' => e = .returned (.bool true) ∧ Same w w' := by
  obtain ⟨v, h', h1, h2, h3, h4⟩ := cf_ok htb (exec_ok htb hm n).1 f vs H.zero isTrue h
  have ht : isTrue v h' = true := by
    have := h1 isTrue
    rw [← this]; exact h
  obtain ⟨b, hb, hbt⟩ := vB_ok ht
  obtain ⟨c1, c2⟩ := h4 noEmb w w args ha (zero_rel0 w)
  refine ⟨c1, c2.mono fun e w' he => ?_⟩
  obtain ⟨x, rfl, ρ', _, x2, x3⟩ := he
  rw [hb] at x2
  have x2' : x = .bool b := x2
  rw [x2', hbt]
  exact ⟨rfl, x3.same⟩
theorem noTb_ok (P : Program) : ∀ f, noTb f = true → PureTrue P f := fun _ h => Bool.noConfusion h
/-- a function without parameters that was run once need not be run again -/
theorem pure_of {tb : Nat → Bool} {P : Program} (htb : ∀ f, tb f = true → PureTrue P f) (hm : P.follows .mixedOrders = true) {n : Nat} {f : FuncId} (h : runFn tb P n f [] = true) : PureTrue P f :=
  fun w => runs htb hm h (args := []) trivial w
def onlyTb (g : Nat) : Nat → Bool := fun f => Nat.beq f g
theorem onlyTb_ok {P : Program} {g : Nat} (h : PureTrue P g) : ∀ f, onlyTb g f = true → PureTrue P f := fun f hf => by
  have : f = g := Nat.eq_of_beq_eq_true hf
  rw [this]; exact h

end Go.Ev
