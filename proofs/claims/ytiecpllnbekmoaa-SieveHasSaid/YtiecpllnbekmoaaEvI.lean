/-
  The evaluator against the model: regions in their own order, code, calls.
-/
import Derived.Test.YtiecpllnbekmoaaEvH
set_option linter.all false
namespace Go.Ev
open Go

/-! ### Frames -/
theorem ARel.up {ρ ρ' : Emb} {nt : Nat} {t : F} {a : Act} (A : ARel ρ nt t a) (h : ρ.le ρ') : ARel ρ' nt t a :=
  ⟨A.defers, A.size, fun n hn => VRel.up h _ _ (A.slot n hn)⟩

theorem dOf_ok {nt : Nat} {dst : Option Tmp} {v : V} {t : F} {k : F → Bool} (hk : putD (dOf nt dst) v t k = true) :
    ∃ t', (∀ k', putD (dOf nt dst) v t k' = k' t') ∧ ∀ ρ a x, ARel ρ nt t a → VRel ρ v x → ARel ρ nt t' (a.put dst x) := by
  cases dst with
  | none => exact ⟨t, fun _ => rfl, fun ρ a x A _ => A⟩
  | some d =>
    have e : dOf nt (some d) = match Nat.ble (Nat.succ d) nt && Nat.ble (Nat.succ d) 512 with | true => .some (slOf d) | false => .bad := rfl
    rw [e] at hk ⊢
    cases hb : (Nat.ble (Nat.succ d) nt && Nat.ble (Nat.succ d) 512) with
    | false => rw [hb] at hk; exact Bool.noConfusion hk
    | true =>
      obtain ⟨t', h1, h2, h3⟩ := sPut_ok (slOf d) v t
      simp only [Bool.and_eq_true] at hb
      have hn : d < nt := Nat.le_of_ble_eq_true hb.1
      have h5 : d < 512 := Nat.le_of_ble_eq_true hb.2
      refine ⟨t', fun k' => h1 k', fun ρ a x A hv => ⟨A.defers, by simp [Act.put, A.size], fun n hn' => ?_⟩⟩
      by_cases hnd : n = d
      · subst hnd
        rw [h2]
        have : ((a.put (some n) x).tmps.getD n undef) = x := by
          simp [Act.put, A.size, hn]
        rw [this]; exact hv
      · rw [h3 _ (fun e => hnd (slOf_inj hn' h5 e))]
        have : ((a.put (some d) x).tmps.getD n undef) = a.tmps.getD n undef := by
          simp only [Act.put, Array.getD_eq_getD_getElem?, Array.getElem?_setIfInBounds]
          rw [if_neg (fun e => hnd e.symm)]
        rw [this]; exact A.slot n hn'

theorem vG_ok {v : V} {w : Bool} {k : Bool → Bool} (h : vG v w k = true) : ∃ b, (∀ k', vG v w k' = k' b) ∧ ((∃ x, v = .b x ∧ b = (x == w)) ∨ (v = .tu [] ∧ b = false)) := by
  cases v <;> try exact Bool.noConfusion h
  · rename_i x
    exact ⟨xor (xor x w) true, fun _ => rfl, .inl ⟨x, rfl, by cases x <;> cases w <;> rfl⟩⟩
  · rename_i cs
    cases cs with
    | nil => exact ⟨false, fun _ => rfl, .inr ⟨rfl, rfl⟩⟩
    | cons y ys => exact Bool.noConfusion h

theorem guard_ok {nt : Nat} {ops : Array Oper} {o : Oper} {t : F} {k : Bool → Bool} (hk : guardK (compG nt ops.toList o.guard) t k = true) :
    ∃ b, (∀ k', guardK (compG nt ops.toList o.guard) t k' = k' b) ∧ ∀ (ρ : Emb) (a : Act), a.tmps.size = nt → (∀ d ∈ guardL ops.toList o, d < 512 → VRel ρ (sGet (slOf d) t) (a.tmps.getD d undef)) → Region.wanted o (yielded ops a.tmps) = b := by
  cases hg : o.guard with
  | none =>
    refine ⟨true, fun _ => rfl, fun ρ a _ _ => ?_⟩
    simp [Region.wanted, hg]
  | some jw =>
    obtain ⟨j, w⟩ := jw
    rw [hg] at hk
    cases hj : ops.toList[j]? with
    | none =>
      have e0 : compG nt ops.toList (some (j, w)) = .bad := by simp only [compG, hj]
      rw [e0] at hk; exact Bool.noConfusion hk
    | some oj =>
    obtain ⟨dst, e1, e2, e3, e4, e5⟩ := oj
    cases dst with
    | none =>
      have e0 : compG nt ops.toList (some (j, w)) = .bad := by simp only [compG, hj]
      rw [e0] at hk; exact Bool.noConfusion hk
    | some d =>
      have e0 : compG nt ops.toList (some (j, w)) = match Nat.ble (Nat.succ d) nt && Nat.ble (Nat.succ d) 512 with | true => .some (slOf d) w | false => .bad := by simp only [compG, hj]; rfl
      rw [e0] at hk ⊢
      cases hb : (Nat.ble (Nat.succ d) nt && Nat.ble (Nat.succ d) 512) with
      | false => rw [hb] at hk; exact Bool.noConfusion hk
      | true =>
        rw [hb] at hk
        simp only [Bool.and_eq_true] at hb
        have hn : d < nt := Nat.le_of_ble_eq_true hb.1
        have h5 : d < 512 := Nat.le_of_ble_eq_true hb.2
        obtain ⟨b, h1, h2⟩ := vG_ok hk
        refine ⟨b, h1, fun ρ a hsz A => ?_⟩
        have hs := A d (by simp [guardL, hg, hj, dstL]) h5
        have hj' : ops[j]? = some ⟨some d, e1, e2, e3, e4, e5⟩ := by simpa using hj
        have ht : a.tmps[d]? = some (a.tmps.getD d undef) := by
          have : d < a.tmps.size := by rw [hsz]; exact hn
          simp [this]
        simp only [Region.wanted, hg, yielded, hj', Option.bind_some, ht]
        rcases h2 with ⟨x, hx, hb2⟩ | ⟨hx, hb2⟩
        · rw [hx] at hs
          have hs' : a.tmps.getD d undef = .bool x := hs
          rw [hs', hb2]
          cases x <;> cases w <;> rfl
        · rw [hx] at hs
          obtain ⟨arr, e, _⟩ := hs
          rw [e, hb2]
          rfl

theorem NxOk.upon {P : Program} {o : Oper} {a : Act} {nx : Next} {w : World} {Post : Value → World → Prop} {next : Act → World → Prop} {Q : Exit → Act → World → Prop} (h : NxOk P nx w Post)
    (hn : ∀ x w', Post x w' → next (a.put o.dst x) w') : o.upon P a next Q (.ok nx w) := by
  cases nx <;> try exact h.elim
  · exact hn _ _ h
  · exact hn _ _ h
  · refine Calls.mono h fun e w' he => ?_
    obtain ⟨x, rfl, hx⟩ := he
    exact hn _ _ hx

/-- one operation's turn -/
theorem op_ok {P : Program} {cf : CallF} (hcf : CfOk P cf) {nt : Nat} {ops : Array Oper} {o : Oper} {bar : Bool} {t : F} {h : H} {ih : F → H → (F → H → Bool) → Bool} {k : F → H → Bool}
    (hk : opK ⟨compG nt ops.toList o.guard, dOf nt o.dst, bar, compOp P o.op⟩ cf ih t h k = true) :
    ∃ t' h', (∀ k', opK ⟨compG nt ops.toList o.guard, dOf nt o.dst, bar, compOp P o.op⟩ cf ih t h k' = ih t' h' k') ∧ KeepF h h' ∧ B.val h.next ≤ B.val h'.next ∧
      ∀ ρ a w w0 (next : Act → World → Prop) (Q : Exit → Act → World → Prop), ARel ρ nt t a → HRel ρ h w w0 → (∀ ρ' a' w', Ext h.floor ρ ρ' → ARel ρ' nt t' a' → HRel ρ' h' w' w0 → next a' w') →
        if Region.wanted o (yielded ops a.tmps) then o.wp P a w next Q else next (a.put o.dst undef) w := by
  have e : ∀ k', opK ⟨compG nt ops.toList o.guard, dOf nt o.dst, bar, compOp P o.op⟩ cf ih t h k' = guardK (compG nt ops.toList o.guard) t fun b => opGo b (compOp P o.op) (dOf nt o.dst) cf ih t h k' := fun _ => rfl
  rw [e] at hk
  obtain ⟨b, g1, g2⟩ := guard_ok hk
  rw [g1] at hk
  cases b with
  | false =>
    have e2 : ∀ k', opGo false (compOp P o.op) (dOf nt o.dst) cf ih t h k' = putD (dOf nt o.dst) (.tu []) t fun t => ih t h k' := fun _ => rfl
    rw [e2] at hk
    obtain ⟨t', p1, p2⟩ := dOf_ok hk
    refine ⟨t', h, fun k' => by rw [e, g1, e2, p1], KeepF.refl h, Nat.le_refl _, fun ρ a w w0 next Q A R hn => ?_⟩
    rw [g2 ρ a A.size (fun d _ hd => A.slot d hd)]
    simp only [Bool.false_eq_true, if_false]
    exact hn ρ _ w (Ext.refl _ ρ) (p2 ρ a undef A ⟨#[], rfl, trivial⟩) R
  | true =>
    have e2 : ∀ k', opGo true (compOp P o.op) (dOf nt o.dst) cf ih t h k' = runK (compOp P o.op) cf t h (fun v h => putD (dOf nt o.dst) v t fun t => ih t h k') := fun _ => rfl
    rw [e2] at hk
    obtain ⟨v, h', r1, r2, r3, r4, _⟩ := compOp_ok P o cf hcf t h _ hk
    rw [r1] at hk
    obtain ⟨t', p1, p2⟩ := dOf_ok hk
    refine ⟨t', h', fun k' => by rw [e, g1, e2, r1, p1], r2, r3, fun ρ a w w0 next Q A R hn => ?_⟩
    rw [g2 ρ a A.size (fun d _ hd => A.slot d hd)]
    simp only [if_true]
    obtain ⟨nx, w1, x1, x2⟩ := r4 ρ a w w0 (A.ops _) R
    unfold Oper.wp
    rw [x1]
    exact x2.upon fun x w' ⟨ρ', y1, y2, y3⟩ => hn ρ' _ w' y1 (p2 ρ' a x (A.up y1.1) y2) y3

theorem execOps_cons (cf : CallF) (o : CO) (l : List CO) (t : F) (h : H) (k : F → H → Bool) : execOps cf (o :: l) t h k = opK o cf (execOps cf l) t h k := rfl

theorem ops_ok {P : Program} {cf : CallF} (hcf : CfOk P cf) {nt : Nat} {ops : Array Oper} (bars : Nat → Bool) : ∀ (l : List Oper) (n : Nat), ops.toList.drop n = l → ∀ (t : F) (h : H) (k : F → H → Bool),
    execOps cf (compOpsWith bars P nt ops.toList (compOp P) n l) t h k = true →
    ∃ t' h', (∀ k', execOps cf (compOpsWith bars P nt ops.toList (compOp P) n l) t h k' = k' t' h') ∧ KeepF h h' ∧ B.val h.next ≤ B.val h'.next ∧
      ∀ ρ a w w0 (Q : Exit → Act → World → Prop), ARel ρ nt t a → HRel ρ h w w0 → (∀ ρ' a' w', Ext h.floor ρ ρ' → ARel ρ' nt t' a' → HRel ρ' h' w' w0 → Q .normal a' w') →
        wpOps P ops Q (List.range' n l.length) a w := by
  intro l
  induction l with
  | nil => intro n hl t h k hk; exact ⟨t, h, fun _ => rfl, KeepF.refl h, Nat.le_refl _, fun ρ a w w0 Q A R hq => hq ρ a w (Ext.refl _ ρ) A R⟩
  | cons o l ih =>
    intro n hl t h k hk
    have e : ∀ k', execOps cf (compOpsWith bars P nt ops.toList (compOp P) n (o :: l)) t h k' =
      opK ⟨compG nt ops.toList o.guard, dOf nt o.dst, bars n, compOp P o.op⟩ cf (execOps cf (compOpsWith bars P nt ops.toList (compOp P) (n + 1) l)) t h k' := fun _ => rfl
    rw [e] at hk
    obtain ⟨t1, h1, a1, a2, a3, a4⟩ := op_ok hcf hk
    rw [a1] at hk
    have hl' : ops.toList.drop (n + 1) = l := by
      rw [← List.drop_drop, hl]; rfl
    obtain ⟨t2, h2, b1, b2, b3, b4⟩ := ih (n + 1) hl' t1 h1 k hk
    refine ⟨t2, h2, fun k' => by rw [e, a1, b1], KeepF.trans a2 a3 b2, Nat.le_trans a3 b3, fun ρ a w w0 Q A R hq => ?_⟩
    have hn : ops[n]? = some o := by
      have : ops.toList[n]? = some o := by
        have := congrArg (fun l => l[0]?) hl
        simpa using this
      simpa using this
    rw [List.length_cons, List.range'_succ, wpOps_cons]
    unfold wpOp
    simp only [hn]
    have := a4 ρ a w w0 (wpOps P ops Q (List.range' (n + 1) l.length)) Q A R fun ρ' a' w' l1 A' R' => b4 ρ' a' w' w0 Q A' R' fun ρ'' a'' w'' l2 A'' R'' => hq ρ'' a'' w'' (Ext.trans l1 (by rw [← a2.1]; exact l2)) A'' R''
    split
    · rename_i hw; simp only [hw, if_true] at this; exact .inl this
    · rename_i hw; simp only [hw] at this; exact this

/-! ### Results -/
def rsSem (a : Act) (r : ResultVar) : Sem Value := match r with
  | .tmp t => pure (a.tmps.getD t undef)
  | .cell ad t => do loadVar t (← asAddr (a.tmps.getD ad undef))
theorem rs_ok {P : Program} {nt : Nat} {r : ResultVar} {t : F} {h : H} {k : V → Bool} (hk : rsK (rsOf P r) t h k = true) :
    ∃ v, (∀ k', rsK (rsOf P r) t h k' = k' v) ∧ ∀ ρ a w w0, ARel ρ nt t a → HRel ρ h w w0 → ∃ x, VRel ρ v x ∧
      (rsSem a r).run P w = .ok x w := by
  cases r with
  | tmp d =>
    have e : rsOf P (.tmp d) = match Nat.ble (Nat.succ d) 512 with | true => .tmp (slOf d) | false => .no := rfl
    rw [e] at hk ⊢
    cases hb : Nat.ble (Nat.succ d) 512 with
    | false => rw [hb] at hk; exact Bool.noConfusion hk
    | true => exact ⟨sGet (slOf d) t, fun k' => by show forceV _ _ = _; rw [forceV_eq], fun ρ a w w0 A R => ⟨_, A.slot d (Nat.le_of_ble_eq_true hb), rfl⟩⟩
  | cell d el =>
    unfold rsOf at hk ⊢
    simp only at hk ⊢
    cases ht : tyAt P el with
    | none => rw [ht] at hk; exact Bool.noConfusion hk
    | some ty =>
      cases hb : Nat.ble (Nat.succ d) 512 with
      | false => rw [ht, hb] at hk; exact Bool.noConfusion hk
      | true =>
        rw [ht, hb] at hk
        obtain ⟨size, bytes, dd, z⟩ := ty
        obtain ⟨i, i1, i2, i3, i4, i5⟩ := tyAt_ok ht
        simp only at hk ⊢
        cases hd : isAggD dd with
        | false =>
          rw [hd] at hk
          simp only at hk ⊢
          have hk' : (vP (sGet (slOf d) t) fun id g off fin => load1 h id g off fin k) = true := hk
          obtain ⟨id, g, off, fin, hv, hk'⟩ := vP_ok hk'
          obtain ⟨v, h1, h2⟩ := load1_ok hk'
          refine ⟨v, fun k' => ?_, fun ρ a w w0 A R => ?_⟩
          · show (vP (sGet (slOf d) t) fun id g off fin => load1 h id g off fin k') = _
            rw [hv]; exact h1 k'
          · have hs := A.slot d (Nat.le_of_ble_eq_true hb)
            rw [hv] at hs
            obtain ⟨L, l1, l2, l3, l4⟩ := hs
            obtain ⟨y, y1, y2⟩ := h2 ρ w w0 L R l1 l3 l4
            refine ⟨y, y1, ?_⟩
            simp only [rsSem, l2, asAddr, Sem.run_bind, Sem.run_pure', Result.andThen_ok, loadVar, run_isAgg i5, hd, Bool.false_eq_true, if_false, run_load, y2]
        | true =>
          rw [hd] at hk
          simp only at hk ⊢
          have hk' : (vP (sGet (slOf d) t) fun id g off fin => loadN h id g off fin size fun vs => k (.a vs)) = true := hk
          obtain ⟨id, g, off, fin, hv, hk'⟩ := vP_ok hk'
          obtain ⟨vs, h1, h2, h3⟩ := loadN_ok hk'
          refine ⟨.a vs, fun k' => ?_, fun ρ a w w0 A R => ?_⟩
          · show (vP (sGet (slOf d) t) fun id g off fin => loadN h id g off fin size fun vs => k' (.a vs)) = _
            rw [hv]; exact h1 _
          · have hs := A.slot d (Nat.le_of_ble_eq_true hb)
            rw [hv] at hs
            obtain ⟨L, l1, l2, l3, l4⟩ := hs
            obtain ⟨xs, x1, x2, x3⟩ := h3 ρ w w0 L R l1 l3 l4
            refine ⟨.agg xs.toArray, ⟨_, rfl, by simpa using x1⟩, ?_⟩
            simp only [rsSem, l2, asAddr, Sem.run_bind, Sem.run_pure', Result.andThen_ok, loadVar, run_isAgg i5, hd, if_true, run_sizeOf' i1, i2, x2]

theorem res_ok {P : Program} {nt : Nat} : ∀ (rs : List ResultVar) (t : F) (h : H) (k : List V → Bool), resK (rs.map (rsOf P)) t h k = true →
    ∃ vs, (∀ k', resK (rs.map (rsOf P)) t h k' = k' vs) ∧ ∀ ρ a w w0, ARel ρ nt t a → HRel ρ h w w0 → ∃ xs, LRel ρ vs xs ∧
      (rs.mapM (rsSem a) : Sem (List Value)).run P w = .ok xs w
  | [], t, h, k, _ => ⟨[], fun _ => rfl, fun ρ a w w0 A R => ⟨[], trivial, rfl⟩⟩
  | r :: rs, t, h, k, hk => by
    have e : ∀ k', resK ((r :: rs).map (rsOf P)) t h k' = rsK (rsOf P r) t h fun v => resK (rs.map (rsOf P)) t h fun vs => k' (v :: vs) := fun _ => rfl
    rw [e] at hk
    obtain ⟨v, h1, h2⟩ := rs_ok (nt := nt) hk
    rw [h1] at hk
    obtain ⟨vs, h3, h4⟩ := res_ok (nt := nt) rs t h _ hk
    refine ⟨v :: vs, fun k' => by rw [e, h1, h3], fun ρ a w w0 A R => ?_⟩
    obtain ⟨x, x1, x2⟩ := h2 ρ a w w0 A R
    obtain ⟨xs, y1, y2⟩ := h4 ρ a w w0 A R
    refine ⟨x :: xs, ⟨x1, y1⟩, ?_⟩
    rw [List.mapM_cons]
    simp only [Sem.run_bind, x2, Result.andThen_ok, y2]
    rfl

theorem results_ok {P : Program} {nt : Nat} {fn : Func} {t : F} {h : H} {k : List V → Bool} (hk : resK (fn.results.toList.map (rsOf P)) t h k = true) :
    ∃ vs, (∀ k', resK (fn.results.toList.map (rsOf P)) t h k' = k' vs) ∧ ∀ ρ a w w0, ARel ρ nt t a → HRel ρ h w w0 → ∃ x, VRel ρ (one vs) x ∧ (results fn a.tmps).run P w = .ok x w := by
  obtain ⟨vs, h1, h2⟩ := res_ok (nt := nt) _ t h k hk
  refine ⟨vs, h1, fun ρ a w w0 A R => ?_⟩
  obtain ⟨xs, x1, x2⟩ := h2 ρ a w w0 A R
  have hrun : (results fn a.tmps).run P w = .ok (if h : xs.toArray.size = 1 then xs.toArray[0] else .tuple xs.toArray) w := by
    have e : results fn a.tmps = (do
      let vs ← fn.results.mapM (rsSem a)
      pure (if h : vs.size = 1 then vs[0] else .tuple vs)) := by
      unfold results
      congr 2
    rw [e, Array.mapM_eq_mapM_toList]
    simp only [Sem.run_bind, Sem.run_map, x2, Result.andThen_ok]
    rfl
  refine ⟨_, ?_, hrun⟩
  match vs, xs, x1 with
  | [], [], _ => exact ⟨#[], rfl, trivial⟩
  | [v], [x], x1 => exact x1.1
  | v :: v' :: vs, x :: x' :: xs, x1 =>
    have : ¬ (x :: x' :: xs).toArray.size = 1 := by simp
    rw [dif_neg this]
    exact ⟨_, rfl, x1⟩

/-! ### Code -/
def xOf : X → Exit
  | .normal => .normal
  | .exit id => .exit id
  | .ret => .ret

def CodeSound (P : Program) (nt : Nat) (c : Code) (t : F) (h : H) (x : X) (t' : F) (h' : H) : Prop :=
  ∀ ρ a w w0 (Q : Exit → Act → World → Prop), ARel ρ nt t a → HRel ρ h w w0 → (∀ ρ' a' w', Ext h.floor ρ ρ' → ARel ρ' nt t' a' → HRel ρ' h' w' w0 → Q (xOf x) a' w') → c.wp P Q a w

def LoopArr (P : Program) (c : Code) (Q : Exit → Act → World → Prop) (a : Act) (w : World) : Prop :=
  ∀ (b : Frame) (k : List Item) (cs : List Frame), ∃ e a' w', Q e a' w' ∧ Arrives P (lone (b.at a (.code c :: .inLoop c :: k)) cs w) b k cs e a' w'

theorem wp_loop_of {P : Program} {c : Code} {Q : Exit → Act → World → Prop} {a : Act} {w : World} (h : LoopArr P c Q a w) : (Code.loop c).wp P Q a w := by
  intro b k cs
  obtain ⟨e, a', w', hq, harr⟩ := h b k cs
  exact ⟨e, a', w', hq, .of_steps (.one step_loop) harr⟩
theorem loopArr_of {P : Program} {c : Code} {Q : Exit → Act → World → Prop} {a : Act} {w : World} (h : c.wp P (Exit.then (LoopArr P c Q) Q) a w) : LoopArr P c Q a w := by
  intro b k cs
  obtain ⟨e, a₁, w₁, hq, harr⟩ := h b (.inLoop c :: k) cs
  cases e with
  | normal =>
    obtain ⟨e₂, a₂, w₂, hq₂, harr₂⟩ := hq b k cs
    exact ⟨e₂, a₂, w₂, hq₂, .of_steps (Steps.trans harr (.one step_inLoop)) harr₂⟩
  | exit id => exact ⟨_, a₁, w₁, hq, .pass (x := .inLoop c) rfl (fun _ _ => .inl (by simp)) harr⟩
  | goto l => exact ⟨_, a₁, w₁, hq, .pass (x := .inLoop c) rfl (fun _ _ => .inl (by simp)) harr⟩
  | ret => exact ⟨_, a₁, w₁, hq, .pass (x := .inLoop c) rfl (fun _ _ => .inl (by simp)) harr⟩
  | panic ch => exact ⟨_, a₁, w₁, hq, .pass (x := .inLoop c) rfl (fun _ _ => .inl (by simp)) harr⟩
  | outgrown => exact ⟨_, a₁, w₁, hq, .pass (x := .inLoop c) rfl (fun _ _ => .inl (by simp)) harr⟩

def LoopSound (P : Program) (nt : Nat) (c : Code) (t : F) (h : H) (x : X) (t' : F) (h' : H) : Prop :=
  ∀ ρ a w w0 (Q : Exit → Act → World → Prop), ARel ρ nt t a → HRel ρ h w w0 → (∀ ρ' a' w', Ext h.floor ρ ρ' → ARel ρ' nt t' a' → HRel ρ' h' w' w0 → Q (xOf x) a' w') → LoopArr P c Q a w

def ExOk (tb : Nat → Bool) (P : Program) (n : Nat) : Prop := ∀ nt (c : Code) t h k, exec tb (compFn P) n (comp P nt c) t h k = true →
  ∃ x t' h', (∀ k', exec tb (compFn P) n (comp P nt c) t h k' = k' x t' h') ∧ KeepF h h' ∧ B.val h.next ≤ B.val h'.next ∧ CodeSound P nt c t h x t' h'
def LpOk (tb : Nat → Bool) (P : Program) (n : Nat) : Prop := ∀ nt (c : Code) t h k, exec tb (compFn P) n (.loop (comp P nt c)) t h k = true →
  ∃ x t' h', (∀ k', exec tb (compFn P) n (.loop (comp P nt c)) t h k' = k' x t' h') ∧ KeepF h h' ∧ B.val h.next ≤ B.val h'.next ∧ LoopSound P nt c t h x t' h'

theorem HRel.grow {ρ : Emb} {h : H} {w w' w0 : World} (R : HRel ρ h w w0) (hb : ∀ b : Nat, b < w.heap.size → w'.heap[b]? = w.heap[b]?) (hs : w.heap.size ≤ w'.heap.size) (hz : w'.tape = w.tape) (ho : w'.os = w.os) (ht : w'.output = w.output) : HRel ρ h w' w0 := by
  refine ⟨fun id g L hL => ?_, R.ids, R.sep, R.flo, fun b hb' => (hb b (Nat.lt_of_lt_of_le hb' R.siz)).trans (R.old b hb'), R.up, hz.trans R.tp, ho.trans R.os, ht.trans R.out, Nat.le_trans R.siz hs, R.mp.of (Emb.le_refl ρ) fun id L blk h1 h2 _ => ⟨h1, h2, by obtain ⟨_, _, _, a3, _⟩ := R.loc _ _ _ h1; exact hb _ a3⟩, R.ito.of fun id g L blk h1 h2 _ _ => ⟨h1, h2, by obtain ⟨_, _, _, a3, _⟩ := R.loc _ _ _ h1; exact hb _ a3⟩⟩
  obtain ⟨blk, a1, a2, a3, a4, a5, a6, a7⟩ := R.loc _ _ _ hL
  refine ⟨blk, a1, a2, Nat.lt_of_lt_of_le a3 hs, a4, a5, a6, fun hm => ?_⟩
  obtain ⟨c, el, b1, b2⟩ := a7 hm
  exact ⟨c, el, b1.congr (hb _ a3), b2⟩
/-- a function without parameters that returns true and leaves all that was there -/
def Same (w w' : World) : Prop := (∀ b : Nat, b < w.heap.size → w'.heap[b]? = w.heap[b]?) ∧ w.heap.size ≤ w'.heap.size ∧ w'.tape = w.tape ∧ w'.os = w.os ∧ w'.output = w.output
def PureTrue (P : Program) (f : FuncId) : Prop := ∀ w, (callFunc f #[]).run P w = .ok (.enter f #[]) w ∧ Calls P f #[] w fun e w' => e = .returned (.bool true) ∧ Same w w'

theorem slots_ok : ∀ (vs : List V) (n : Nat) (t : F) (k : F → Bool), n + vs.length ≤ 512 → ∃ t', (∀ k', slots vs n t k' = k' t') ∧ (∀ i v, vs[i]? = some v → sGet (slOf (n + i)) t' = v) ∧
    ∀ m, m < 512 → (m < n ∨ n + vs.length ≤ m) → sGet (slOf m) t' = sGet (slOf m) t
  | [], n, t, k, _ => ⟨t, fun _ => rfl, fun i v h => by simp at h, fun _ _ _ => rfl⟩
  | v :: vs, n, t, k, hl => by
    simp only [List.length_cons] at hl
    obtain ⟨t1, h1, h2, h3⟩ := sPut_ok (slOf n) v t
    obtain ⟨t2, g1, g2, g3⟩ := slots_ok vs (n + 1) t1 k (by omega)
    have e : ∀ k', slots (v :: vs) n t k' = sPut (slOf n) v t fun t => slots vs (n + 1) t k' := fun _ => rfl
    refine ⟨t2, fun k' => by rw [e, h1, g1], fun i u hi => ?_, fun m hm hmn => ?_⟩
    · cases i with
      | zero =>
        simp at hi
        subst hi
        rw [Nat.add_zero, g3 n (by omega) (.inl (by omega)), h2]
      | succ i =>
        have := g2 i u (by simpa using hi)
        rwa [show n + 1 + i = n + (i + 1) by omega] at this
    · rw [g3 m hm (by simp at hmn; omega), h3 _ (fun e => by have := slOf_inj hm (by omega) e; simp at hmn; omega)]

theorem zero_slot (s : Sl) : sGet s F.zero = .u := by
  obtain ⟨x, y, z⟩ := s
  cases x <;> cases y <;> cases z <;> rfl

theorem cf_ok {tb : Nat → Bool} {P : Program} (htb : ∀ f, tb f = true → PureTrue P f) {n : Nat} (hE : ExOk tb P n) : CfOk P (callF tb (exec tb (compFn P) n) (compFn P)) := by
  intro f vs h k hk
  cases htf : tb f with
  | true =>
    have e : ∀ k', callF tb (exec tb (compFn P) n) (compFn P) f vs h k' = memoK vs h k' := fun k' => by unfold callF; rw [htf]; rfl
    rw [e] at hk
    cases vs with
    | cons v vs => exact Bool.noConfusion hk
    | nil =>
      refine ⟨.b true, h, fun k' => by rw [e]; rfl, KeepF.refl h, Nat.le_refl _, fun ρ w w0 args hargs R => ?_⟩
      have ha : args = [] := by cases args <;> first | rfl | exact hargs.elim
      subst ha
      obtain ⟨p1, p2⟩ := htb f htf w
      refine ⟨p1, p2.mono fun e w' he => ?_⟩
      obtain ⟨rfl, s1, s2, s3, s4, s5⟩ := he
      exact ⟨_, rfl, ρ, Ext.refl _ ρ, rfl, R.grow s1 s2 s3 s4 s5⟩
  | false =>
  have e : ∀ k', callF tb (exec tb (compFn P) n) (compFn P) f vs h k' = CF.rec (motive := fun _ => Ex → List V → H → (V → H → Bool) → Bool) (fun nt body rs ex args h k => ifK (Nat.ble args.length nt) fun _ => ifK (Nat.ble args.length 512) fun _ => slots args 0 F.zero fun t => ex body t h (retK rs k)) (compFn P f) (exec tb (compFn P) n) vs h k' := fun k' => by unfold callF; rw [htf]; rfl
  rw [e] at hk
  cases hfn : P.funcs.toList[f]? with
  | none =>
    have hc : compFn P f = ⟨0, .bad, []⟩ := by simp only [compFn, hfn]
    rw [hc] at hk
    have hk' : (ifK (Nat.ble vs.length 0) fun _ => ifK (Nat.ble vs.length 512) fun _ => slots vs 0 F.zero fun t => exec tb (compFn P) n .bad t h (retK [] k)) = true := hk
    obtain ⟨hb, hk'⟩ := ifK_ok hk'
    obtain ⟨_, hk'⟩ := ifK_ok hk'
    have hl : vs.length ≤ 0 := Nat.le_of_ble_eq_true hb
    obtain ⟨t', s1, _⟩ := slots_ok vs 0 F.zero (fun _ => true) (by omega)
    rw [s1] at hk'
    cases n <;> exact Bool.noConfusion hk'
  | some fn =>
    have hfn' : P.funcs[f]? = some fn := by simpa using hfn
    cases hbd : fn.body with
    | none =>
      have hc : compFn P f = ⟨0, .bad, []⟩ := by simp only [compFn, hfn, hbd]
      rw [hc] at hk
      have hk' : (ifK (Nat.ble vs.length 0) fun _ => ifK (Nat.ble vs.length 512) fun _ => slots vs 0 F.zero fun t => exec tb (compFn P) n .bad t h (retK [] k)) = true := hk
      obtain ⟨hb, hk'⟩ := ifK_ok hk'
      obtain ⟨_, hk'⟩ := ifK_ok hk'
      have hl : vs.length ≤ 0 := Nat.le_of_ble_eq_true hb
      obtain ⟨t', s1, _⟩ := slots_ok vs 0 F.zero (fun _ => true) (by omega)
      rw [s1] at hk'
      cases n <;> exact Bool.noConfusion hk'
    | some body =>
      cases hnm : (fn.name == "runtime.NumGoroutine") with
      | true =>
        have hc : compFn P f = ⟨0, .bad, []⟩ := by simp only [compFn, hfn, hbd, hnm]
        rw [hc] at hk
        have hk' : (ifK (Nat.ble vs.length 0) fun _ => ifK (Nat.ble vs.length 512) fun _ => slots vs 0 F.zero fun t => exec tb (compFn P) n .bad t h (retK [] k)) = true := hk
        obtain ⟨hb, hk'⟩ := ifK_ok hk'
        obtain ⟨_, hk'⟩ := ifK_ok hk'
        have hl : vs.length ≤ 0 := Nat.le_of_ble_eq_true hb
        obtain ⟨t', s1, _⟩ := slots_ok vs 0 F.zero (fun _ => true) (by omega)
        rw [s1] at hk'
        cases n <;> exact Bool.noConfusion hk'
      | false =>
        have hc : compFn P f = ⟨fn.ntmps, comp P fn.ntmps body, fn.results.toList.map (rsOf P)⟩ := by simp only [compFn, hfn, hbd, hnm]
        have e' : ∀ k', callF tb (exec tb (compFn P) n) (compFn P) f vs h k' = (ifK (Nat.ble vs.length fn.ntmps) fun _ => ifK (Nat.ble vs.length 512) fun _ => slots vs 0 F.zero fun t => exec tb (compFn P) n (comp P fn.ntmps body) t h (retK (fn.results.toList.map (rsOf P)) k')) := by
          intro k'; rw [e, hc]
        rw [← e, e'] at hk
        obtain ⟨hb1, hk⟩ := ifK_ok hk
        obtain ⟨hb2, hk⟩ := ifK_ok hk
        have hl1 : vs.length ≤ fn.ntmps := Nat.le_of_ble_eq_true hb1
        have hl2 : vs.length ≤ 512 := Nat.le_of_ble_eq_true hb2
        obtain ⟨t0, s1, s2, s3⟩ := slots_ok vs 0 F.zero (fun _ => true) (by omega)
        rw [s1] at hk
        obtain ⟨x, t', h', x1, x2, x3, x4⟩ := hE _ _ _ _ _ hk
        rw [x1] at hk
        have hret : ∃ vs', (∀ k', retK (fn.results.toList.map (rsOf P)) k' x t' h' = k' (one vs') h') ∧ (x = .normal ∨ x = .ret) ∧
            ∀ ρ a w w0, ARel ρ fn.ntmps t' a → HRel ρ h' w w0 → ∃ y, VRel ρ (one vs') y ∧ (results fn a.tmps).run P w = .ok y w := by
          cases x with
          | exit id => exact Bool.noConfusion hk
          | normal =>
            have hk' : (resK (fn.results.toList.map (rsOf P)) t' h' fun vs => forceV (one vs) fun v => k v h') = true := hk
            obtain ⟨vs', r1, r2⟩ := results_ok (nt := fn.ntmps) hk'
            exact ⟨vs', fun k' => by show (resK (fn.results.toList.map (rsOf P)) t' h' fun vs => forceV (one vs) fun v => k' v h') = _; rw [r1, forceV_eq], .inl rfl, r2⟩
          | ret =>
            have hk' : (resK (fn.results.toList.map (rsOf P)) t' h' fun vs => forceV (one vs) fun v => k v h') = true := hk
            obtain ⟨vs', r1, r2⟩ := results_ok (nt := fn.ntmps) hk'
            exact ⟨vs', fun k' => by show (resK (fn.results.toList.map (rsOf P)) t' h' fun vs => forceV (one vs) fun v => k' v h') = _; rw [r1, forceV_eq], .inr rfl, r2⟩
        obtain ⟨vs', r1, r2, r3⟩ := hret
        refine ⟨one vs', h', fun k' => by rw [e', hb1, hb2]; simp only [ifK_true]; rw [s1, x1, r1], x2, x3, fun ρ w w0 args hargs R => ?_⟩
        have hal := hargs.length
        constructor
        · have hp : (program : Sem Program).run P w = .ok P w := rfl
          unfold callFunc
          simp only [Sem.run_bind, hp, Result.andThen_ok, hfn', hnm, Bool.false_eq_true, if_false, hbd, Option.isNone_some]
          rfl
        · refine calls_of_wp hfn' hbd ?_
          have A0 : ARel ρ fn.ntmps t0 { tmps := args.toArray ++ Array.replicate (fn.ntmps - args.toArray.size) undef, defers := [] } := by
            refine ⟨rfl, by simp; omega, fun m hm => ?_⟩
            by_cases hmv : m < vs.length
            · have hv : vs[m]? = some (vs[m]'hmv) := by simp
              obtain ⟨y, y1, y2⟩ := hargs.get hv
              have := s2 m _ hv
              rw [Nat.zero_add] at this
              rw [this]
              have hy : (args.toArray ++ Array.replicate (fn.ntmps - args.toArray.size) undef).getD m undef = y := by
                have hma : m < args.length := by omega
                rw [Array.getD_eq_getD_getElem?, Array.getElem?_append_left (by simpa using hma)]
                simp [y1]
              rw [hy]; exact y2
            · rw [s3 m hm (.inr (by omega)), zero_slot]; trivial
          refine x4 ρ _ w w0 _ A0 R fun ρ' a' w' hle A' R' => ?_
          obtain ⟨y, y1, y2⟩ := r3 ρ' a' w' w0 A' R'
          rcases r2 with rfl | rfl
          · exact ⟨A'.defers, y, y2, y, rfl, ρ', hle, y1, R'⟩
          · exact ⟨A'.defers, y, y2, y, rfl, ρ', hle, y1, R'⟩

end Go.Ev
