/-
  The evaluator's operations against the model's: what is owed of each, and the plain ones.
-/
import Derived.Test.YtiecpllnbekmoaaEvC
set_option linter.all false
namespace Go.Ev
open Go

/-! ### Arithmetic -/
theorem kdEq_ok {a b : IntKind} (h : kdEq a b = true) : a = b := by
  cases a <;> cases b <;> first | rfl | exact Bool.noConfusion h
theorem ltI_eq (a b : Int) : ltI a b = decide (a < b) := by
  have e : ∀ {x y : Bool}, (x = true ↔ y = true) → x = y := by intro x y h; cases x <;> cases y <;> simp_all
  cases a <;> cases b <;> apply e
  · rename_i m n; show Nat.ble (m + 1) n = true ↔ _; rw [Nat.ble_eq]; simp; omega
  · rename_i m n; show false = true ↔ _; simp; omega
  · rename_i m n; show true = true ↔ _; simp; omega
  · rename_i m n; show Nat.ble (n + 1) m = true ↔ _; rw [Nat.ble_eq]; simp; omega
theorem eqI_eq (a b : Int) : eqI a b = (a == b) := by
  have e : ∀ {x y : Bool}, (x = true ↔ y = true) → x = y := by intro x y h; cases x <;> cases y <;> simp_all
  cases a <;> cases b <;> apply e
  · rename_i m n; show Nat.beq m n = true ↔ _; rw [Nat.beq_eq]; simp; omega
  · rename_i m n; show false = true ↔ _; simp
  · rename_i m n; show false = true ↔ _; simp
  · rename_i m n; show Nat.beq m n = true ↔ _; rw [Nat.beq_eq]; simp
theorem wrap_small (k : IntKind) (m : Nat) (h : m ≤ mxOf k) : k.wrap (Int.ofNat m) = Int.ofNat m := by
  have key : ∀ (B : Nat) (sg : Bool), (m : Int) < (2 ^ B : Int) → (sg = true → (m : Int) < 2 ^ (B - 1)) →
      (let r := (m : Int) % (2 ^ B : Int); if sg && r ≥ (2 ^ (B - 1) : Int) then r - (2 ^ B : Int) else r) = (m : Int) := by
    intro B sg h1 h2
    have e : (m : Int) % (2 ^ B : Int) = m := Int.emod_eq_of_lt (by omega) h1
    simp only [e]
    cases sg with
    | false => simp
    | true =>
      have := h2 rfl
      rw [if_neg]
      simp
      omega
  cases k <;> simp only [mxOf] at h
  · exact key 8 true (by omega) (by intro _; omega)
  · exact key 16 true (by omega) (by intro _; omega)
  · exact key 32 true (by omega) (by intro _; omega)
  · exact key 64 true (by omega) (by intro _; omega)
  · exact key 8 false (by omega) (by intro hf; cases hf)
  · exact key 16 false (by omega) (by intro hf; cases hf)
  · exact key 32 false (by omega) (by intro hf; cases hf)
  · exact key 64 false (by omega) (by intro hf; cases hf)
theorem wrapF_eq (n : Int) (kd : IntKind) (k : V → Bool) : wrapF n kd (mxOf kd) k = k (.i kd (kd.wrap n)) := by
  cases n with
  | ofNat m =>
    show wrapB (Nat.ble m (mxOf kd)) kd m k = _
    cases hb : Nat.ble m (mxOf kd) with
    | true =>
      show fN m _ = _
      rw [fN_eq, wrap_small kd m (Nat.le_of_ble_eq_true hb)]
    | false =>
      show forceI _ _ = _
      rw [forceI_eq]
  | negSucc m =>
    show forceI _ _ = _
    rw [forceI_eq]

/-! ### Operands -/
noncomputable def oV (o : O) (t : F) : V := O.rec (fun s t => sGet s t) (fun v _ => v) o t
@[simp] theorem oK_eq (o : O) (t : F) (k : V → Bool) : oK o t k = k (oV o t) := by
  cases o with
  | t s => show forceV _ _ = _; rw [forceV_eq]; rfl
  | c v => rfl

@[simp] theorem oE_eq (o : O) (t : F) (k : V → Bool) : oE o t k = k (oV o t) := by
  cases o with
  | t s => rfl
  | c v => rfl

structure ARel (ρ : Emb) (nt : Nat) (t : F) (a : Act) : Prop where
  defers : a.defers = []
  size : a.tmps.size = nt
  slot : ∀ n, n < 512 → VRel ρ (sGet (slOf n) t) (a.tmps.getD n undef)

theorem ofConst_rel (ρ : Emb) (v : Value) : VRel ρ (ofConst v) v := by
  unfold ofConst
  split
  · rfl
  · rfl
  · rfl
  · rfl
  · exact ⟨_, rfl, rfl, rfl⟩
  · rfl
  · rfl
  · rfl
  · trivial

theorem opnd_rel {ρ : Emb} {nt : Nat} {t : F} {a : Act} (A : ARel ρ nt t a) (x : Operand) : VRel ρ (oV (compO x) t) (a.eval x) := by
  cases x with
  | tmp n =>
    show VRel ρ (oV (match Nat.ble (n + 1) 512 with | true => .t (slOf n) | false => .c .u) t) _
    cases hn : Nat.ble (n + 1) 512 with
    | true => exact A.slot n (Nat.le_of_ble_eq_true hn)
    | false => trivial
  | const v => exact ofConst_rel ρ v
  | global g => trivial
  | func f => exact ⟨#[], rfl, trivial⟩

theorem evalsK_ok : ∀ (os : List Operand) (t : F) (k : List V → Bool), evalsK (os.map compO) t k = k (os.map fun x => oV (compO x) t)
  | [], _, _ => rfl
  | x :: r, t, k => by
    have e : evalsK ((x :: r).map compO) t k = oK (compO x) t fun v => evalsK (r.map compO) t fun vs => k (v :: vs) := rfl
    rw [e, oK_eq, evalsK_ok r]
    rfl
theorem opnds_rel {ρ : Emb} {nt : Nat} {t : F} {a : Act} (A : ARel ρ nt t a) : ∀ (os : List Operand), LRel ρ (os.map fun x => oV (compO x) t) (os.map a.eval)
  | [] => trivial
  | x :: r => ⟨opnd_rel A x, opnds_rel A r⟩

/-! ### Types -/
theorem tyAt_ok {P : Program} {t : TypeId} {ty : Ty} (h : tyAt P t = some ty) :
    ∃ i, P.info? t = some i ∧ i.size = ty.size ∧ i.bytes = ty.bytes ∧ zeroOf i.zero = ty.zero ∧ P.underlying t = some ty.desc := by
  have look : ∀ {u : Nat} {i : TypeInfo}, P.types.toList[u]? = some i → P.info? u = some i := by
    intro u i hu
    have hu' : P.types[u]? = some i := by simpa using hu
    have hlt : u < P.types.size := (Array.getElem?_eq_some_iff.1 hu').1
    simp only [Tables.info?, hlt, if_true]
    exact hu'
  unfold tyAt at h
  split at h
  · cases h
  · rename_i i hi
    split at h
    · rename_i nm u hd
      split at h
      · cases h
      · rename_i j hj
        cases h
        refine ⟨i, look hi, rfl, rfl, rfl, ?_⟩
        unfold Program.underlying
        rw [look hi]
        obtain ⟨d, s1, s2, s3, s4, s5, s6, s7, s8, s9⟩ := i
        simp only at hd
        subst hd
        simp only [look hj, Option.map_some]
    · rename_i d hd
      cases h
      refine ⟨i, look hi, rfl, rfl, rfl, ?_⟩
      unfold Program.underlying
      rw [look hi]
      obtain ⟨d, s1, s2, s3, s4, s5, s6, s7, s8, s9⟩ := i
      cases d <;> first | rfl | (exact absurd rfl (hd _ _))
theorem run_isAgg {P : Program} {t : TypeId} {d : TypeDesc} (h : P.underlying t = some d) (w : World) : (isAgg t).run P w = .ok (isAggD d) w := by
  unfold isAgg
  simp only [Sem.run_bind, run_underlying h, Result.andThen_ok]
  cases d <;> rfl
theorem run_sizeOf' {P : Program} {t : TypeId} {i : TypeInfo} (h : P.info? t = some i) (w : World) : (sizeOf t).run P w = .ok i.size w := by
  have hp : (program : Sem Program).run P w = .ok P w := rfl
  unfold sizeOf typeInfo
  simp only [Sem.run_bind, hp, Result.andThen_ok, h]
  rfl
theorem run_typeInfo' {P : Program} {t : TypeId} {i : TypeInfo} (h : P.info? t = some i) (w : World) : (typeInfo t).run P w = .ok i w := by
  have hp : (program : Sem Program).run P w = .ok P w := rfl
  unfold typeInfo
  simp only [Sem.run_bind, hp, Result.andThen_ok, h]
  rfl
theorem run_zero' {P : Program} {t : TypeId} {i : TypeInfo} {v : Value} (h : P.info? t = some i) (hz : i.zero = some v) (w : World) : (zeroValue t).run P w = .ok v w := by
  unfold zeroValue
  simp [Sem.run_bind, run_typeInfo' h, hz]
theorem zero_rel {ρ : Emb} {z : Option Value} (h : 1 ≤ (zeroOf z).length) : ∃ v, z = some v ∧ LRel ρ (zeroOf z) v.cells.toList := by
  unfold zeroOf at h ⊢
  split at h
  · rename_i cs
    refine ⟨_, rfl, ?_⟩
    show LRel ρ _ cs
    clear h
    induction cs with
    | nil => trivial
    | cons c cs ih => exact ⟨ofConst_rel ρ c, ih⟩
  · rename_i v hv
    refine ⟨v, rfl, ?_⟩
    have : v.cells = #[v] := by
      cases v <;> first | rfl | exact absurd rfl (hv _)
    simp only [this]
    exact ⟨ofConst_rel ρ v, trivial⟩
  · simp at h

/-! ### What is owed of an operation -/
def NxOk (P : Program) (nx : Next) (w : World) (Post : Value → World → Prop) : Prop :=
  match nx with
  | .value x => Post x w
  | .skip => Post undef w
  | .enter f args => Calls P f args w fun e w' => ∃ x, e = .returned x ∧ Post x w'
  | _ => False

def Done (f : B) (ρ : Emb) (w0 : World) (v : V) (h : H) (x : Value) (w : World) : Prop := ∃ ρ', Ext f ρ ρ' ∧ VRel ρ' v x ∧ HRel ρ' h w w0

/-- the operands alone -/
def ORel (ρ : Emb) (t : F) (a : Act) (os : List Operand) : Prop := ∀ x ∈ os, VRel ρ (oV (compO x) t) (a.eval x)
theorem ARel.ops {ρ : Emb} {nt : Nat} {t : F} {a : Act} (A : ARel ρ nt t a) (os : List Operand) : ORel ρ t a os := fun x _ => opnd_rel A x

theorem ORel.list {ρ : Emb} {t : F} {a : Act} : ∀ {os : List Operand}, ORel ρ t a os → LRel ρ (os.map fun x => oV (compO x) t) (os.map a.eval)
  | [], _ => trivial
  | x :: r, A => ⟨A x (by simp), ORel.list fun y hy => A y (by simp [hy])⟩

def OpSound (P : Program) (o : Oper) (t : F) (h : H) (v : V) (h' : H) : Prop :=
  ∀ ρ a w w0, ORel ρ t a o.op.operands.toList → HRel ρ h w w0 → ∃ nx w1, (execOp a.eval o).run P w = .ok nx w1 ∧ NxOk P nx w1 (Done h.floor ρ w0 v h')

/-- of an operation that touches no memory -/
def CalmSound (P : Program) (o : Oper) (t : F) (v : V) : Prop := ∀ ρ a w, ORel ρ t a o.op.operands.toList → ∃ x, (execOp a.eval o).run P w = .ok (.value x) w ∧ VRel ρ v x

def CfOk (P : Program) (cf : CallF) : Prop := ∀ f vs h k, cf f vs h k = true → ∃ v h', (∀ k', cf f vs h k' = k' v h') ∧ KeepF h h' ∧ B.val h.next ≤ B.val h'.next ∧
  ∀ ρ w w0 args, LRel ρ vs args → HRel ρ h w w0 →
    (callFunc f args.toArray).run P w = .ok (.enter f args.toArray) w ∧ Calls P f args.toArray w fun e w' => ∃ x, e = .returned x ∧ Done h.floor ρ w0 v h' x w'

def RunOk (P : Program) (o : Oper) (r : Run) : Prop := ∀ cf, CfOk P cf → ∀ t h k, r cf t h k = true →
  ∃ v h', (∀ k', r cf t h k' = k' v h') ∧ KeepF h h' ∧ B.val h.next ≤ B.val h'.next ∧ OpSound P o t h v h' ∧ (still P o.op = true → h' = h ∧ CalmSound P o t v)

theorem no_ok (P : Program) (o : Oper) : RunOk P o noRun := fun _ _ _ _ _ h => Bool.noConfusion h

/-- an operation that reads memory and leaves it alone -/
theorem RunOk.pure {P : Program} {o : Oper} {r : Run} (hs : still P o.op = false) (hr : ∀ cf t h k, r cf t h k = true → ∃ v, (∀ k', r cf t h k' = k' v h) ∧
    ∀ ρ a, ORel ρ t a o.op.operands.toList → ∀ w w0, HRel ρ h w w0 → ∃ x, (execOp a.eval o).run P w = .ok (.value x) w ∧ VRel ρ v x) : RunOk P o r := by
  intro cf _ t h k hk
  obtain ⟨v, h1, h2⟩ := hr cf t h k hk
  refine ⟨v, h, h1, KeepF.refl h, Nat.le_refl _, fun ρ a w w0 A R => ?_, fun hc => by rw [hs] at hc; cases hc⟩
  obtain ⟨x, h3, h4⟩ := h2 ρ a A w w0 R
  exact ⟨_, _, h3, ρ, Ext.refl _ ρ, h4, R⟩
/-- an operation that makes a value out of values -/
theorem RunOk.calm {P : Program} {o : Oper} {r : Run} (hr : ∀ cf t h k, r cf t h k = true → ∃ v, (∀ k', r cf t h k' = k' v h) ∧
    ∀ ρ a, ORel ρ t a o.op.operands.toList → ∀ w, ∃ x, (execOp a.eval o).run P w = .ok (.value x) w ∧ VRel ρ v x) : RunOk P o r := by
  intro cf _ t h k hk
  obtain ⟨v, h1, h2⟩ := hr cf t h k hk
  refine ⟨v, h, h1, KeepF.refl h, Nat.le_refl _, fun ρ a w w0 A R => ?_, fun _ => ⟨rfl, fun ρ a w A => h2 ρ a A w⟩⟩
  obtain ⟨x, h3, h4⟩ := h2 ρ a A w
  exact ⟨_, _, h3, ρ, Ext.refl _ ρ, h4, R⟩

theorem Sem.run_pure' {α : Type} (P : Program) (x : α) (w : World) : (pure x : Sem α).run P w = .ok x w := rfl
theorem run_v (P : Program) (s : Sem Value) (w : World) : (do pure (Next.value (← s)) : Sem Next).run P w = (s.run P w).andThen fun x w' => .ok (.value x) w' := by
  rw [Sem.run_bind]; rfl

theorem move_ok (P : Program) (o : Oper) (x : Operand) (h : o.op = .move x ∨ o.op = .assign x) : RunOk P o (doMove (compO x)) :=
  RunOk.calm fun cf t hp k _ => ⟨oV (compO x) t, fun k' => by simp [doMove], fun ρ a A w => ⟨a.eval x, by
    unfold execOp
    rcases h with h | h <;> rw [h] <;> rfl, A x (by rcases h with h | h <;> rw [h] <;> simp [Op.operands])⟩⟩

/-! ### Taking values apart -/
theorem vB_ok {v : V} {k : Bool → Bool} (h : vB v k = true) : ∃ x, v = .b x ∧ k x = true := by
  cases v <;> first | exact ⟨_, rfl, h⟩ | exact Bool.noConfusion h
theorem vI_ok {v : V} {k : IntKind → Int → Bool} (h : vI v k = true) : ∃ kd n, v = .i kd n ∧ k kd n = true := by
  cases v <;> first | exact ⟨_, _, rfl, h⟩ | exact Bool.noConfusion h
theorem vIR_ok {v : V} {k : IntKind → Int → Bool} {q : IntKind → Nat → Nat → Nat → Bool} (h : vIR v k q = true) : (∃ kd n, v = .i kd n ∧ k kd n = true) ∨ ∃ kd m r hi, v = .r kd m r hi ∧ q kd m r hi = true := by
  cases v <;> first | exact .inl ⟨_, _, rfl, h⟩ | exact .inr ⟨_, _, _, _, rfl, h⟩ | exact Bool.noConfusion h
@[simp] theorem vIR_i (kd : IntKind) (n : Int) (k : IntKind → Int → Bool) (q : IntKind → Nat → Nat → Nat → Bool) : vIR (.i kd n) k q = k kd n := rfl
@[simp] theorem vIR_r (kd : IntKind) (m r hi : Nat) (k : IntKind → Int → Bool) (q : IntKind → Nat → Nat → Nat → Bool) : vIR (.r kd m r hi) k q = q kd m r hi := rfl
theorem vP_ok {v : V} {k : B → Nat → Nat → Nat → Bool} (h : vP v k = true) : ∃ id g off fin, v = .p id g off fin ∧ k id g off fin = true := by
  cases v <;> first | exact ⟨_, _, _, _, rfl, h⟩ | exact Bool.noConfusion h
theorem vA_ok {v : V} {k : List V → Bool} (h : vA v k = true) : ∃ cs, v = .a cs ∧ k cs = true := by
  cases v <;> first | exact ⟨_, rfl, h⟩ | exact Bool.noConfusion h
theorem vT_ok {v : V} {k : List V → Bool} (h : vT v k = true) : ∃ cs, v = .tu cs ∧ k cs = true := by
  cases v <;> first | exact ⟨_, rfl, h⟩ | exact Bool.noConfusion h
theorem vL_ok {v : V} {z : Unit → Bool} {k : B → Nat → Nat → Nat → Nat → Option Nat → Bool} (h : vL v z k = true) :
    (v = .l0 ∧ z () = true) ∨ ∃ id g off len fin cap, v = .l id g off len fin cap ∧ k id g off len fin cap = true := by
  cases v <;> first | exact .inl ⟨rfl, h⟩ | exact .inr ⟨_, _, _, _, _, _, rfl, h⟩ | exact Bool.noConfusion h
theorem vS_ok {v : V} {k : Nat → Nat → Bool} (h : vS v k = true) : ∃ l n, v = .s l n ∧ k l n = true := by
  cases v <;> first | exact ⟨_, _, rfl, h⟩ | exact Bool.noConfusion h
@[simp] theorem vS_s (l n : Nat) (k : Nat → Nat → Bool) : vS (.s l n) k = k l n := rfl
theorem knownV_ok {v : V} (h : knownV v = true) : v ≠ .u := by
  rintro rfl; exact Bool.noConfusion h
@[simp] theorem vB_b (x : Bool) (k : Bool → Bool) : vB (.b x) k = k x := rfl
@[simp] theorem vI_i (kd : IntKind) (n : Int) (k : IntKind → Int → Bool) : vI (.i kd n) k = k kd n := rfl
@[simp] theorem vP_p (id : B) (g off fin : Nat) (k : B → Nat → Nat → Nat → Bool) : vP (.p id g off fin) k = k id g off fin := rfl
@[simp] theorem vA_a (cs : List V) (k : List V → Bool) : vA (.a cs) k = k cs := rfl
@[simp] theorem vT_tu (cs : List V) (k : List V → Bool) : vT (.tu cs) k = k cs := rfl
@[simp] theorem vL_l0 (z : Unit → Bool) (k : B → Nat → Nat → Nat → Nat → Option Nat → Bool) : vL .l0 z k = z () := rfl
@[simp] theorem vL_l (id : B) (g off len fin : Nat) (cap : Option Nat) (z : Unit → Bool) (k : B → Nat → Nat → Nat → Nat → Option Nat → Bool) : vL (.l id g off len fin cap) z k = k id g off len fin cap := rfl
theorem fB_eq (b : Bool) (k : V → Bool) : fB b k = k (.b b) := by cases b <;> rfl

theorem pick_ok (P : Program) (o : Oper) (c x y : Operand) (h : o.op = .pick c x y) : RunOk P o (doPick (compO c) (compO x) (compO y)) := by
  refine RunOk.calm fun cf t hp k hk => ?_
  simp only [doPick, oK_eq, oE_eq] at hk
  obtain ⟨b, hb, hk⟩ := vB_ok hk
  refine ⟨if b then oV (compO x) t else oV (compO y) t, fun k' => by simp only [doPick, oK_eq, oE_eq, hb, vB_b]; cases b <;> rfl, fun ρ a A w => ?_⟩
  have hc := (A c (by rw [h]; simp [Op.operands]))
  rw [hb] at hc
  have hc' : a.eval c = .bool b := hc
  refine ⟨if b then a.eval x else a.eval y, ?_, ?_⟩
  · unfold execOp; rw [h]; simp only [hc']; cases b <;> rfl
  · cases b
    · exact (A y (by rw [h]; simp [Op.operands]))
    · exact (A x (by rw [h]; simp [Op.operands]))

theorem box_ok (P : Program) (o : Oper) (el : TypeId) (x : Operand) (h : o.op = .box el x) : RunOk P o (doBox el (compO x)) := by
  intro cf _ t hp k hk
  simp only [doBox, oK_eq, oE_eq] at hk
  obtain ⟨hu, hk⟩ := ifK_ok hk
  obtain ⟨h', h1, h2, h3, h4⟩ := alloc_ok hk
  refine ⟨.p hp.next 0 0 (cells (oV (compO x) t)).length, h', fun k' => by simp only [doBox, oK_eq, oE_eq, hu, ifK_true, h1], h2, h3, fun ρ a w w0 A R => ?_, fun hs => by rw [h] at hs; exact Bool.noConfusion hs⟩
  have hc := cells_rel (knownV_ok hu) (A x (by rw [h]; simp [Op.operands]))
  obtain ⟨ρ', e1, e2, e3⟩ := h4 ρ w w0 (a.eval x).cells 0 _ R (by rw [hc.length]; simp) rfl
    (fun i v y hv hy => by obtain ⟨z, d1, d2⟩ := hc.get hv; have : some z = some y := by rw [← d1, ← hy, Array.getElem?_toList]
                           cases this; exact d2) rfl
  exact ⟨.value (.pointer (some ⟨w.heap.size, 0, none⟩)), w.alloc (.cells (a.eval x).cells el), by unfold execOp; rw [h]; rfl, ρ', e1, ⟨_, e2, by simp, Nat.zero_le _, Nat.le_refl _⟩, e3⟩

theorem zalloc_ok (P : Program) (o : Oper) (el : TypeId) (h : o.op = .alloc el) : RunOk P o (CR.rec (fun r => r) (compAlloc el (tyAt P el))) := by
  cases ht : tyAt P el with
  | none => exact no_ok P o
  | some ty =>
    obtain ⟨size, bytes, d, z⟩ := ty
    cases hc : (Nat.beq z.length size && Nat.ble 1 size) with
    | false =>
      have : compAlloc el (some ⟨size, bytes, d, z⟩) = ⟨noRun⟩ := by simp only [compAlloc, hc]
      rw [this]; exact no_ok P o
    | true =>
      have : compAlloc el (some ⟨size, bytes, d, z⟩) = ⟨doAlloc el z⟩ := by simp only [compAlloc, hc]
      rw [this]
      show RunOk P o (doAlloc el z)
      simp only [Bool.and_eq_true] at hc
      obtain ⟨i, i1, i2, i3, i4, i5⟩ := tyAt_ok ht
      intro cf _ t hp k hk
      simp only [doAlloc] at hk
      obtain ⟨h', h1, h2, h3, h4⟩ := alloc_ok hk
      refine ⟨.p hp.next 0 0 z.length, h', fun k' => by simp only [doAlloc, h1], h2, h3, fun ρ a w w0 A R => ?_, fun hs => by rw [h] at hs; exact Bool.noConfusion hs⟩
      have hl : 1 ≤ (zeroOf i.zero).length := by
        rw [i4]; have e1 := Nat.eq_of_beq_eq_true hc.1; have e2 := Nat.le_of_ble_eq_true hc.2; simp only; omega
      obtain ⟨v, v1, v2⟩ := zero_rel (ρ := ρ) hl
      rw [i4] at v2
      obtain ⟨ρ', e1, e2, e3⟩ := h4 ρ w w0 v.cells 0 _ R (by have := v2.length; simp at this; omega) rfl
        (fun i v y hv hy => by obtain ⟨z, d1, d2⟩ := v2.get hv; have : some z = some y := by rw [← d1, ← hy, Array.getElem?_toList]
                               cases this; exact d2) rfl
      refine ⟨.value (.pointer (some ⟨w.heap.size, 0, none⟩)), w.alloc (.cells v.cells el), ?_, ρ', e1, ⟨_, e2, by simp, Nat.zero_le _, Nat.le_refl _⟩, e3⟩
      unfold execOp
      rw [h]
      simp only [run_v, Instr.alloc, Sem.run_bind, run_zero' i1 v1, Result.andThen_ok]
      rfl

theorem sureAddr_run (P : Program) (a : Addr) (w : World) : (Instr.sureAddr (.pointer (some a))).run P w = .ok a w := rfl

theorem load_ok (P : Program) (o : Oper) (el : TypeId) (x : Operand) (h : o.op = .load el x) : RunOk P o (CR.rec (fun r => r) (compLoad (tyAt P el) (compO x))) := by
  cases ht : tyAt P el with
  | none => exact no_ok P o
  | some ty =>
    obtain ⟨size, bytes, d, z⟩ := ty
    obtain ⟨i, i1, i2, i3, i4, i5⟩ := tyAt_ok ht
    cases hd : isAggD d with
    | true =>
      have : compLoad (some ⟨size, bytes, d, z⟩) (compO x) = ⟨doLoadA size (compO x)⟩ := by simp only [compLoad, hd]
      rw [this]
      show RunOk P o (doLoadA size (compO x))
      refine RunOk.pure (by rw [h]; rfl) fun cf t hp k hk => ?_
      simp only [doLoadA, oK_eq, oE_eq] at hk
      obtain ⟨id, g, off, fin, hv, hk⟩ := vP_ok hk
      obtain ⟨vs, h1, h2, h3⟩ := loadN_ok hk
      refine ⟨.a vs, fun k' => by simp only [doLoadA, oK_eq, oE_eq, hv, vP_p, h1], fun ρ a A w w0 R => ?_⟩
      have hx := (A x (by rw [h]; simp [Op.operands]))
      rw [hv] at hx
      obtain ⟨L, l1, l2, l3, l4⟩ := hx
      obtain ⟨xs, x1, x2, x3⟩ := h3 ρ w w0 L R l1 l3 l4
      refine ⟨.agg xs.toArray, ?_, _, rfl, by simpa using x1⟩
      unfold execOp
      rw [h]
      simp only [run_v, Instr.loadAt, l2, Sem.run_bind, sureAddr_run, Result.andThen_ok, loadVar, run_isAgg i5, hd, if_true, run_sizeOf' i1, i2, x2]
      rfl
    | false =>
      have : compLoad (some ⟨size, bytes, d, z⟩) (compO x) = ⟨doLoad (compO x)⟩ := by simp only [compLoad, hd]
      rw [this]
      show RunOk P o (doLoad (compO x))
      refine RunOk.pure (by rw [h]; rfl) fun cf t hp k hk => ?_
      simp only [doLoad, oK_eq, oE_eq] at hk
      obtain ⟨id, g, off, fin, hv, hk⟩ := vP_ok hk
      obtain ⟨v, h1, h2⟩ := load1_ok hk
      refine ⟨v, fun k' => by simp only [doLoad, oK_eq, oE_eq, hv, vP_p, h1], fun ρ a A w w0 R => ?_⟩
      have hx := (A x (by rw [h]; simp [Op.operands]))
      rw [hv] at hx
      obtain ⟨L, l1, l2, l3, l4⟩ := hx
      obtain ⟨y, y1, y2⟩ := h2 ρ w w0 L R l1 l3 l4
      refine ⟨y, ?_, y1⟩
      unfold execOp
      rw [h]
      simp only [run_v, Instr.loadAt, l2, Sem.run_bind, sureAddr_run, Result.andThen_ok, loadVar, run_isAgg i5, hd, Bool.false_eq_true, if_false, run_load, y2]
      rfl

theorem storeop_ok (P : Program) (o : Oper) (el : TypeId) (x y : Operand) (h : o.op = .store el x y) : RunOk P o (CR.rec (fun r => r) (compStore (tyAt P el) (compO x) (compO y))) := by
  cases ht : tyAt P el with
  | none => exact no_ok P o
  | some ty =>
    obtain ⟨size, bytes, d, z⟩ := ty
    obtain ⟨i, i1, i2, i3, i4, i5⟩ := tyAt_ok ht
    show RunOk P o (doStore size (compO x) (compO y))
    intro cf _ t hp k hk
    simp only [doStore, oK_eq, oE_eq] at hk
    obtain ⟨id, g, off, fin, hv, hk⟩ := vP_ok hk
    obtain ⟨hl, hk⟩ := ifK_ok hk
    obtain ⟨h', h1, h2, h3, h4⟩ := store_ok hk
    have hu : oV (compO y) t ≠ .u := by
      intro e
      rw [e] at hk
      simp only [store] at hk
      generalize hp = hp' at hk
      obtain ⟨a1, a2, a3⟩ := hp'
      simp only [hK_mk] at hk
      obtain ⟨⟨b1, b2, b3, b4, b5, b6⟩, _, hk⟩ := optK_ok hk
      simp only [blkK_mk] at hk
      have := (ifK_ok (ifK_ok (ifK_ok (ifK_ok (ifK_ok hk).2).2).2).2).1
      exact Bool.noConfusion this
    refine ⟨.tu [], h', fun k' => by simp only [doStore, oK_eq, oE_eq, hv, vP_p, hl, ifK_true, h1], h2, by rw [h3]; exact Nat.le_refl _, fun ρ a w w0 A R => ?_, fun hs => by rw [h] at hs; exact Bool.noConfusion hs⟩
    have hx := (A x (by rw [h]; simp [Op.operands]))
    rw [hv] at hx
    obtain ⟨L, l1, l2, l3, l4⟩ := hx
    have hc := cells_rel hu (A y (by rw [h]; simp [Op.operands]))
    obtain ⟨s1, s2⟩ := h4 ρ w w0 L _ R l1 l3 l4 hc
    have hsz : (a.eval y).cells.size = i.size := by
      have := hc.length
      have e := Nat.eq_of_beq_eq_true hl
      simp at this
      rw [i2]; simp only; omega
    refine ⟨.skip, _, ?_, ρ, Ext.refl _ ρ, ⟨#[], rfl, trivial⟩, s2⟩
    unfold execOp
    rw [h]
    simp only [Instr.storeAt, l2, Sem.run_bind, sureAddr_run, Result.andThen_ok, storeVar, run_sizeOf' i1, hsz, ne_eq, not_true_eq_false, if_false, s1]
    rfl

end Go.Ev
