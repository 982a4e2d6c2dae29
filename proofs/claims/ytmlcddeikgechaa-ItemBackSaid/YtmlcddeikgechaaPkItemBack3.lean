/- Texts of ours, without what this claim does not use: EvI EvI2 EvJ EvJ2 EvK EvL EvM EvN EvO EvQ EvR EvV EvX EvP Arg ArgS. No condition. -/
import Derived.Test.YtmlcddeikgechaaPkItemBack2
import Derived.Orders
import Derived.Scope
import Derived.ProofKit
import Derived.HandedShaped
import Derived.Carry
import Derived.OpenShut
import Derived.Deep.Slices
import Derived.SliceStrings
set_option linter.all false
namespace Go.Ev
open Go
section
variable [DefL]
theorem ARel.up {ρ ρ' : Emb} {nt : Nat} {t : F} {a : Act} (A : ARel ρ nt t a) (h : ρ.le ρ') : ARel ρ' nt t a :=
  ⟨A.defers, A.size, fun n hn => VRel.up h _ _ (A.slot n hn)⟩
theorem dOf_ok {nt : Nat} {dst : Option Tmp} {v : V} {t : F} {k : F → Bool} (hk : putD (dOf nt dst) v t k = true) :
    ∃ t', (∀ k', putD (dOf nt dst) v t k' = k' t') ∧ ∀ ρ a x, ARel ρ nt t a → VRel ρ v x → ARel ρ nt t' (a.put dst x) := by
  cases dst with
  | none => exact ⟨t, fun _ => rfl, fun ρ a x A _ => A⟩
  | some d =>
    have e : dOf nt (some d) = match Nat.ble (Nat.succ d) nt && Nat.ble (Nat.succ d) 512 with | true => .some (slOf d) | false => .bad := rfl
    rw [e] at hk ⊢
    cases hb : (Nat.ble (Nat.succ d) nt && Nat.ble (Nat.succ d) 512) with
    | false => rw [hb] at hk; exact Bool.noConfusion hk
    | true =>
      obtain ⟨t', h1, h2, h3⟩ := sPut_ok (slOf d) v t
      simp only [Bool.and_eq_true] at hb
      have hn : d < nt := Nat.le_of_ble_eq_true hb.1
      have h5 : d < 512 := Nat.le_of_ble_eq_true hb.2
      refine ⟨t', fun k' => h1 k', fun ρ a x A hv => ⟨A.defers, by simp [Act.put, A.size], fun n hn' => ?_⟩⟩
      by_cases hnd : n = d
      · subst hnd
        rw [h2]
        have : ((a.put (some n) x).tmps.getD n undef) = x := by
          simp [Act.put, A.size, hn]
        rw [this]; exact hv
      · rw [h3 _ (fun e => hnd (slOf_inj hn' h5 e))]
        have : ((a.put (some d) x).tmps.getD n undef) = a.tmps.getD n undef := by
          simp only [Act.put, Array.getD_eq_getD_getElem?, Array.getElem?_setIfInBounds]
          rw [if_neg (fun e => hnd e.symm)]
        rw [this]; exact A.slot n hn'
theorem vG_ok {v : V} {w : Bool} {k : Bool → Bool} (h : vG v w k = true) : ∃ b, (∀ k', vG v w k' = k' b) ∧ ((∃ x, v = .b x ∧ b = (x == w)) ∨ (v = .tu [] ∧ b = false)) := by
  cases v <;> try exact Bool.noConfusion h
  · rename_i x
    exact ⟨xor (xor x w) true, fun _ => rfl, .inl ⟨x, rfl, by cases x <;> cases w <;> rfl⟩⟩
  · rename_i cs
    cases cs with
    | nil => exact ⟨false, fun _ => rfl, .inr ⟨rfl, rfl⟩⟩
    | cons y ys => exact Bool.noConfusion h
theorem guard_ok {nt : Nat} {ops : Array Oper} {o : Oper} {t : F} {k : Bool → Bool} (hk : guardK (compG nt ops.toList o.guard) t k = true) :
    ∃ b, (∀ k', guardK (compG nt ops.toList o.guard) t k' = k' b) ∧ ∀ (ρ : Emb) (a : Act), a.tmps.size = nt → (∀ d ∈ guardL ops.toList o, d < 512 → VRel ρ (sGet (slOf d) t) (a.tmps.getD d undef)) → Region.wanted o (yielded ops a.tmps) = b := by
  cases hg : o.guard with
  | none =>
    refine ⟨true, fun _ => rfl, fun ρ a _ _ => ?_⟩
    simp [Region.wanted, hg]
  | some jw =>
    obtain ⟨j, w⟩ := jw
    rw [hg] at hk
    cases hj : ops.toList[j]? with
    | none =>
      have e0 : compG nt ops.toList (some (j, w)) = .bad := by simp only [compG, hj]
      rw [e0] at hk; exact Bool.noConfusion hk
    | some oj =>
    obtain ⟨dst, e1, e2, e3, e4, e5⟩ := oj
    cases dst with
    | none =>
      have e0 : compG nt ops.toList (some (j, w)) = .bad := by simp only [compG, hj]
      rw [e0] at hk; exact Bool.noConfusion hk
    | some d =>
      have e0 : compG nt ops.toList (some (j, w)) = match Nat.ble (Nat.succ d) nt && Nat.ble (Nat.succ d) 512 with | true => .some (slOf d) w | false => .bad := by simp only [compG, hj]; rfl
      rw [e0] at hk ⊢
      cases hb : (Nat.ble (Nat.succ d) nt && Nat.ble (Nat.succ d) 512) with
      | false => rw [hb] at hk; exact Bool.noConfusion hk
      | true =>
        rw [hb] at hk
        simp only [Bool.and_eq_true] at hb
        have hn : d < nt := Nat.le_of_ble_eq_true hb.1
        have h5 : d < 512 := Nat.le_of_ble_eq_true hb.2
        obtain ⟨b, h1, h2⟩ := vG_ok hk
        refine ⟨b, h1, fun ρ a hsz A => ?_⟩
        have hs := A d (by simp [guardL, hg, hj, dstL]) h5
        have hj' : ops[j]? = some ⟨some d, e1, e2, e3, e4, e5⟩ := by simpa using hj
        have ht : a.tmps[d]? = some (a.tmps.getD d undef) := by
          have : d < a.tmps.size := by rw [hsz]; exact hn
          simp [this]
        simp only [Region.wanted, hg, yielded, hj', Option.bind_some, ht]
        rcases h2 with ⟨x, hx, hb2⟩ | ⟨hx, hb2⟩
        · rw [hx] at hs
          have hs' : a.tmps.getD d undef = .bool x := hs
          rw [hs', hb2]
          cases x <;> cases w <;> rfl
        · rw [hx] at hs
          obtain ⟨arr, e, _⟩ := hs
          rw [e, hb2]
          rfl
theorem NxOk.upon {P : Program} {o : Oper} {a : Act} {nx : Next} {w : World} {Post : Value → World → Prop} {next : Act → World → Prop} {Q : Exit → Act → World → Prop} (h : NxOk P nx w Post)
    (hn : ∀ x w', Post x w' → next (a.put o.dst x) w') : o.upon P a next Q (.ok nx w) := by
  cases nx <;> try exact h.elim
  · exact hn _ _ h
  · exact hn _ _ h
  · refine Calls.mono h fun e w' he => ?_
    obtain ⟨x, rfl, hx⟩ := he
    exact hn _ _ hx
/-- one operation's turn -/
theorem op_ok {P : Program} {cf : CallF} (hcf : CfOk P cf) {nt : Nat} {ops : Array Oper} {o : Oper} {bar : Bool} {t : F} {h : H} {ih : F → H → (F → H → Bool) → Bool} {k : F → H → Bool}
    (hk : opK ⟨compG nt ops.toList o.guard, dOf nt o.dst, bar, compOp P o.op⟩ cf ih t h k = true) :
    ∃ t' h', (∀ k', opK ⟨compG nt ops.toList o.guard, dOf nt o.dst, bar, compOp P o.op⟩ cf ih t h k' = ih t' h' k') ∧ KeepF h h' ∧ B.val h.next ≤ B.val h'.next ∧
      ∀ ρ a w w0 (next : Act → World → Prop) (Q : Exit → Act → World → Prop), ARel ρ nt t a → HRel ρ h w w0 → (∀ ρ' a' w', Ext h.floor ρ ρ' → ARel ρ' nt t' a' → HRel ρ' h' w' w0 → next a' w') →
        if Region.wanted o (yielded ops a.tmps) then o.wp P a w next Q else next (a.put o.dst undef) w := by
  have e : ∀ k', opK ⟨compG nt ops.toList o.guard, dOf nt o.dst, bar, compOp P o.op⟩ cf ih t h k' = guardK (compG nt ops.toList o.guard) t fun b => opGo b (compOp P o.op) (dOf nt o.dst) cf ih t h k' := fun _ => rfl
  rw [e] at hk
  obtain ⟨b, g1, g2⟩ := guard_ok hk
  rw [g1] at hk
  cases b with
  | false =>
    have e2 : ∀ k', opGo false (compOp P o.op) (dOf nt o.dst) cf ih t h k' = putD (dOf nt o.dst) (.tu []) t fun t => ih t h k' := fun _ => rfl
    rw [e2] at hk
    obtain ⟨t', p1, p2⟩ := dOf_ok hk
    refine ⟨t', h, fun k' => by rw [e, g1, e2, p1], KeepF.refl h, Nat.le_refl _, fun ρ a w w0 next Q A R hn => ?_⟩
    rw [g2 ρ a A.size (fun d _ hd => A.slot d hd)]
    simp only [Bool.false_eq_true, if_false]
    exact hn ρ _ w (Ext.refl _ ρ) (p2 ρ a undef A ⟨#[], rfl, trivial⟩) R
  | true =>
    have e2 : ∀ k', opGo true (compOp P o.op) (dOf nt o.dst) cf ih t h k' = runK (compOp P o.op) cf t h (fun v h => putD (dOf nt o.dst) v t fun t => ih t h k') := fun _ => rfl
    rw [e2] at hk
    obtain ⟨v, h', r1, r2, r3, r4, _⟩ := compOp_ok P o cf hcf t h _ hk
    rw [r1] at hk
    obtain ⟨t', p1, p2⟩ := dOf_ok hk
    refine ⟨t', h', fun k' => by rw [e, g1, e2, r1, p1], r2, r3, fun ρ a w w0 next Q A R hn => ?_⟩
    rw [g2 ρ a A.size (fun d _ hd => A.slot d hd)]
    simp only [if_true]
    obtain ⟨nx, w1, x1, x2⟩ := r4 ρ a w w0 (A.ops _) R
    unfold Oper.wp
    rw [x1]
    exact x2.upon fun x w' ⟨ρ', y1, y2, y3⟩ => hn ρ' _ w' y1 (p2 ρ' a x (A.up y1.1) y2) y3
theorem ops_ok {P : Program} {cf : CallF} (hcf : CfOk P cf) {nt : Nat} {ops : Array Oper} (bars : Nat → Bool) : ∀ (l : List Oper) (n : Nat), ops.toList.drop n = l → ∀ (t : F) (h : H) (k : F → H → Bool),
    execOps cf (compOpsWith bars P nt ops.toList (compOp P) n l) t h k = true →
    ∃ t' h', (∀ k', execOps cf (compOpsWith bars P nt ops.toList (compOp P) n l) t h k' = k' t' h') ∧ KeepF h h' ∧ B.val h.next ≤ B.val h'.next ∧
      ∀ ρ a w w0 (Q : Exit → Act → World → Prop), ARel ρ nt t a → HRel ρ h w w0 → (∀ ρ' a' w', Ext h.floor ρ ρ' → ARel ρ' nt t' a' → HRel ρ' h' w' w0 → Q .normal a' w') →
        wpOps P ops Q (List.range' n l.length) a w := by
  intro l
  induction l with
  | nil => intro n hl t h k hk; exact ⟨t, h, fun _ => rfl, KeepF.refl h, Nat.le_refl _, fun ρ a w w0 Q A R hq => hq ρ a w (Ext.refl _ ρ) A R⟩
  | cons o l ih =>
    intro n hl t h k hk
    have e : ∀ k', execOps cf (compOpsWith bars P nt ops.toList (compOp P) n (o :: l)) t h k' =
      opK ⟨compG nt ops.toList o.guard, dOf nt o.dst, bars n, compOp P o.op⟩ cf (execOps cf (compOpsWith bars P nt ops.toList (compOp P) (n + 1) l)) t h k' := fun _ => rfl
    rw [e] at hk
    obtain ⟨t1, h1, a1, a2, a3, a4⟩ := op_ok hcf hk
    rw [a1] at hk
    have hl' : ops.toList.drop (n + 1) = l := by
      rw [← List.drop_drop, hl]; rfl
    obtain ⟨t2, h2, b1, b2, b3, b4⟩ := ih (n + 1) hl' t1 h1 k hk
    refine ⟨t2, h2, fun k' => by rw [e, a1, b1], KeepF.trans a2 a3 b2, Nat.le_trans a3 b3, fun ρ a w w0 Q A R hq => ?_⟩
    have hn : ops[n]? = some o := by
      have : ops.toList[n]? = some o := by
        have := congrArg (fun l => l[0]?) hl
        simpa using this
      simpa using this
    rw [List.length_cons, List.range'_succ, wpOps_cons]
    unfold wpOp
    simp only [hn]
    have := a4 ρ a w w0 (wpOps P ops Q (List.range' (n + 1) l.length)) Q A R fun ρ' a' w' l1 A' R' => b4 ρ' a' w' w0 Q A' R' fun ρ'' a'' w'' l2 A'' R'' => hq ρ'' a'' w'' (Ext.trans l1 (by rw [← a2.1]; exact l2)) A'' R''
    split
    · rename_i hw; simp only [hw, if_true] at this; exact .inl this
    · rename_i hw; simp only [hw] at this; exact this
def rsSem (a : Act) (r : ResultVar) : Sem Value := match r with
  | .tmp t => pure (a.tmps.getD t undef)
  | .cell ad t => do loadVar t (← asAddr (a.tmps.getD ad undef))
theorem rs_ok {P : Program} {nt : Nat} {r : ResultVar} {t : F} {h : H} {k : V → Bool} (hk : rsK (rsOf P r) t h k = true) :
    ∃ v, (∀ k', rsK (rsOf P r) t h k' = k' v) ∧ ∀ ρ a w w0, ARel ρ nt t a → HRel ρ h w w0 → ∃ x, VRel ρ v x ∧
      (rsSem a r).run P w = .ok x w := by
  cases r with
  | tmp d =>
    have e : rsOf P (.tmp d) = match Nat.ble (Nat.succ d) 512 with | true => .tmp (slOf d) | false => .no := rfl
    rw [e] at hk ⊢
    cases hb : Nat.ble (Nat.succ d) 512 with
    | false => rw [hb] at hk; exact Bool.noConfusion hk
    | true => exact ⟨sGet (slOf d) t, fun k' => by show forceV _ _ = _; rw [forceV_eq], fun ρ a w w0 A R => ⟨_, A.slot d (Nat.le_of_ble_eq_true hb), rfl⟩⟩
  | cell d el =>
    unfold rsOf at hk ⊢
    simp only at hk ⊢
    cases ht : tyAt P el with
    | none => rw [ht] at hk; exact Bool.noConfusion hk
    | some ty =>
      cases hb : Nat.ble (Nat.succ d) 512 with
      | false => rw [ht, hb] at hk; exact Bool.noConfusion hk
      | true =>
        rw [ht, hb] at hk
        obtain ⟨size, bytes, dd, z⟩ := ty
        obtain ⟨i, i1, i2, i3, i4, i5⟩ := tyAt_ok ht
        simp only at hk ⊢
        cases hd : isAggD dd with
        | false =>
          rw [hd] at hk
          simp only at hk ⊢
          have hk' : (vP (sGet (slOf d) t) fun id g off fin => load1 h id g off fin k) = true := hk
          obtain ⟨id, g, off, fin, hv, hk'⟩ := vP_ok hk'
          obtain ⟨v, h1, h2⟩ := load1_ok hk'
          refine ⟨v, fun k' => ?_, fun ρ a w w0 A R => ?_⟩
          · show (vP (sGet (slOf d) t) fun id g off fin => load1 h id g off fin k') = _
            rw [hv]; exact h1 k'
          · have hs := A.slot d (Nat.le_of_ble_eq_true hb)
            rw [hv] at hs
            obtain ⟨L, l1, l2, l3, l4⟩ := hs
            obtain ⟨y, y1, y2⟩ := h2 ρ w w0 L R l1 l3 l4
            refine ⟨y, y1, ?_⟩
            simp only [rsSem, l2, asAddr, Sem.run_bind, Sem.run_pure', Result.andThen_ok, loadVar, run_isAgg i5, hd, Bool.false_eq_true, if_false, run_load, y2]
        | true =>
          rw [hd] at hk
          simp only at hk ⊢
          have hk' : (vP (sGet (slOf d) t) fun id g off fin => loadN h id g off fin size fun vs => k (.a vs)) = true := hk
          obtain ⟨id, g, off, fin, hv, hk'⟩ := vP_ok hk'
          obtain ⟨vs, h1, h2, h3⟩ := loadN_ok hk'
          refine ⟨.a vs, fun k' => ?_, fun ρ a w w0 A R => ?_⟩
          · show (vP (sGet (slOf d) t) fun id g off fin => loadN h id g off fin size fun vs => k' (.a vs)) = _
            rw [hv]; exact h1 _
          · have hs := A.slot d (Nat.le_of_ble_eq_true hb)
            rw [hv] at hs
            obtain ⟨L, l1, l2, l3, l4⟩ := hs
            obtain ⟨xs, x1, x2, x3⟩ := h3 ρ w w0 L R l1 l3 l4
            refine ⟨.agg xs.toArray, ⟨_, rfl, by simpa using x1⟩, ?_⟩
            simp only [rsSem, l2, asAddr, Sem.run_bind, Sem.run_pure', Result.andThen_ok, loadVar, run_isAgg i5, hd, if_true, run_sizeOf' i1, i2, x2]
theorem res_ok {P : Program} {nt : Nat} : ∀ (rs : List ResultVar) (t : F) (h : H) (k : List V → Bool), resK (rs.map (rsOf P)) t h k = true →
    ∃ vs, (∀ k', resK (rs.map (rsOf P)) t h k' = k' vs) ∧ ∀ ρ a w w0, ARel ρ nt t a → HRel ρ h w w0 → ∃ xs, LRel ρ vs xs ∧
      (rs.mapM (rsSem a) : Sem (List Value)).run P w = .ok xs w
  | [], t, h, k, _ => ⟨[], fun _ => rfl, fun ρ a w w0 A R => ⟨[], trivial, rfl⟩⟩
  | r :: rs, t, h, k, hk => by
    have e : ∀ k', resK ((r :: rs).map (rsOf P)) t h k' = rsK (rsOf P r) t h fun v => resK (rs.map (rsOf P)) t h fun vs => k' (v :: vs) := fun _ => rfl
    rw [e] at hk
    obtain ⟨v, h1, h2⟩ := rs_ok (nt := nt) hk
    rw [h1] at hk
    obtain ⟨vs, h3, h4⟩ := res_ok (nt := nt) rs t h _ hk
    refine ⟨v :: vs, fun k' => by rw [e, h1, h3], fun ρ a w w0 A R => ?_⟩
    obtain ⟨x, x1, x2⟩ := h2 ρ a w w0 A R
    obtain ⟨xs, y1, y2⟩ := h4 ρ a w w0 A R
    refine ⟨x :: xs, ⟨x1, y1⟩, ?_⟩
    rw [List.mapM_cons]
    simp only [Sem.run_bind, x2, Result.andThen_ok, y2]
    rfl
theorem results_ok {P : Program} {nt : Nat} {fn : Func} {t : F} {h : H} {k : List V → Bool} (hk : resK (fn.results.toList.map (rsOf P)) t h k = true) :
    ∃ vs, (∀ k', resK (fn.results.toList.map (rsOf P)) t h k' = k' vs) ∧ ∀ ρ a w w0, ARel ρ nt t a → HRel ρ h w w0 → ∃ x, VRel ρ (one vs) x ∧ (results fn a.tmps).run P w = .ok x w := by
  obtain ⟨vs, h1, h2⟩ := res_ok (nt := nt) _ t h k hk
  refine ⟨vs, h1, fun ρ a w w0 A R => ?_⟩
  obtain ⟨xs, x1, x2⟩ := h2 ρ a w w0 A R
  have hrun : (results fn a.tmps).run P w = .ok (if h : xs.toArray.size = 1 then xs.toArray[0] else .tuple xs.toArray) w := by
    have e : results fn a.tmps = (do
      let vs ← fn.results.mapM (rsSem a)
      pure (if h : vs.size = 1 then vs[0] else .tuple vs)) := by
      unfold results
      congr 2
    rw [e, Array.mapM_eq_mapM_toList]
    simp only [Sem.run_bind, Sem.run_map, x2, Result.andThen_ok]
    rfl
  refine ⟨_, ?_, hrun⟩
  match vs, xs, x1 with
  | [], [], _ => exact ⟨#[], rfl, trivial⟩
  | [v], [x], x1 => exact x1.1
  | v :: v' :: vs, x :: x' :: xs, x1 =>
    have : ¬ (x :: x' :: xs).toArray.size = 1 := by simp
    rw [dif_neg this]
    exact ⟨_, rfl, x1⟩
def xOf : X → Exit
  | .normal => .normal
  | .exit id => .exit id
  | .ret => .ret
def CodeSound (P : Program) (nt : Nat) (c : Code) (t : F) (h : H) (x : X) (t' : F) (h' : H) : Prop :=
  ∀ ρ a w w0 (Q : Exit → Act → World → Prop), ARel ρ nt t a → HRel ρ h w w0 → (∀ ρ' a' w', Ext h.floor ρ ρ' → ARel ρ' nt t' a' → HRel ρ' h' w' w0 → Q (xOf x) a' w') → c.wp P Q a w
def LoopArr (P : Program) (c : Code) (Q : Exit → Act → World → Prop) (a : Act) (w : World) : Prop :=
  ∀ (b : Frame) (k : List Item) (cs : List Frame), ∃ e a' w', Q e a' w' ∧ Arrives P (lone (b.at a (.code c :: .inLoop c :: k)) cs w) b k cs e a' w'
theorem wp_loop_of {P : Program} {c : Code} {Q : Exit → Act → World → Prop} {a : Act} {w : World} (h : LoopArr P c Q a w) : (Code.loop c).wp P Q a w := by
  intro b k cs
  obtain ⟨e, a', w', hq, harr⟩ := h b k cs
  exact ⟨e, a', w', hq, .of_steps (.one step_loop) harr⟩
theorem loopArr_of {P : Program} {c : Code} {Q : Exit → Act → World → Prop} {a : Act} {w : World} (h : c.wp P (Exit.then (LoopArr P c Q) Q) a w) : LoopArr P c Q a w := by
  intro b k cs
  obtain ⟨e, a₁, w₁, hq, harr⟩ := h b (.inLoop c :: k) cs
  cases e with
  | normal =>
    obtain ⟨e₂, a₂, w₂, hq₂, harr₂⟩ := hq b k cs
    exact ⟨e₂, a₂, w₂, hq₂, .of_steps (Steps.trans harr (.one step_inLoop)) harr₂⟩
  | exit id => exact ⟨_, a₁, w₁, hq, .pass (x := .inLoop c) rfl (fun _ _ => .inl (by simp)) harr⟩
  | goto l => exact ⟨_, a₁, w₁, hq, .pass (x := .inLoop c) rfl (fun _ _ => .inl (by simp)) harr⟩
  | ret => exact ⟨_, a₁, w₁, hq, .pass (x := .inLoop c) rfl (fun _ _ => .inl (by simp)) harr⟩
  | panic ch => exact ⟨_, a₁, w₁, hq, .pass (x := .inLoop c) rfl (fun _ _ => .inl (by simp)) harr⟩
  | outgrown => exact ⟨_, a₁, w₁, hq, .pass (x := .inLoop c) rfl (fun _ _ => .inl (by simp)) harr⟩
def LoopSound (P : Program) (nt : Nat) (c : Code) (t : F) (h : H) (x : X) (t' : F) (h' : H) : Prop :=
  ∀ ρ a w w0 (Q : Exit → Act → World → Prop), ARel ρ nt t a → HRel ρ h w w0 → (∀ ρ' a' w', Ext h.floor ρ ρ' → ARel ρ' nt t' a' → HRel ρ' h' w' w0 → Q (xOf x) a' w') → LoopArr P c Q a w
def ExOk (tb : Nat → Option Sp) (P : Program) (n : Nat) : Prop := ∀ nt (c : Code) t h k, exec tb (compFn P) n (comp P nt c) t h k = true →
  ∃ x t' h', (∀ k', exec tb (compFn P) n (comp P nt c) t h k' = k' x t' h') ∧ KeepF h h' ∧ B.val h.next ≤ B.val h'.next ∧ CodeSound P nt c t h x t' h'
def LpOk (tb : Nat → Option Sp) (P : Program) (n : Nat) : Prop := ∀ nt (c : Code) t h k, exec tb (compFn P) n (.loop (comp P nt c)) t h k = true →
  ∃ x t' h', (∀ k', exec tb (compFn P) n (.loop (comp P nt c)) t h k' = k' x t' h') ∧ KeepF h h' ∧ B.val h.next ≤ B.val h'.next ∧ LoopSound P nt c t h x t' h'
theorem HRel.grow {ρ : Emb} {h : H} {w w' w0 : World} (R : HRel ρ h w w0) (hb : ∀ b : Nat, b < w.heap.size → w'.heap[b]? = w.heap[b]?) (hs : w.heap.size ≤ w'.heap.size) (hz : w'.tape = w.tape) (ho : w'.os = w.os) (ht : w'.output = w.output) : HRel ρ h w' w0 := by
  refine ⟨fun id g L hL => ?_, R.ids, R.sep, R.flo, fun b hb' => (hb b (Nat.lt_of_lt_of_le hb' R.siz)).trans (R.old b hb'), R.up, hz.trans R.tp, ho.trans R.os, ht.trans R.out, Nat.le_trans R.siz hs, R.mp.of (Emb.le_refl ρ) fun id L blk h1 h2 _ _ => ⟨h1, h2, by obtain ⟨_, _, _, a3, _⟩ := R.loc _ _ _ h1; exact hb _ a3⟩, R.ito.of fun id g L blk h1 h2 _ _ => ⟨h1, h2, by obtain ⟨_, _, _, a3, _⟩ := R.loc _ _ _ h1; exact hb _ a3⟩⟩
  obtain ⟨blk, a1, a2, a3, a4, a5, a6, a7⟩ := R.loc _ _ _ hL
  refine ⟨blk, a1, a2, Nat.lt_of_lt_of_le a3 hs, a4, a5, a6, fun hm => ?_⟩
  obtain ⟨c, el, b1, b2⟩ := a7 hm
  exact ⟨c, el, b1.congr (hb _ a3), b2⟩
/-- a function without parameters that returns true and leaves all that was there -/
def Same (w w' : World) : Prop := (∀ b : Nat, b < w.heap.size → w'.heap[b]? = w.heap[b]?) ∧ w.heap.size ≤ w'.heap.size ∧ w'.tape = w.tape ∧ w'.os = w.os ∧ w'.output = w.output
def PureTrue (P : Program) (f : FuncId) : Prop := ∀ w, (callFunc f #[]).run P w = .ok (.enter f #[]) w ∧ Calls P f #[] w fun e w' => e = .returned (.bool true) ∧ Same w w'
theorem slots_ok : ∀ (vs : List V) (n : Nat) (t : F) (k : F → Bool), n + vs.length ≤ 512 → ∃ t', (∀ k', slots vs n t k' = k' t') ∧ (∀ i v, vs[i]? = some v → sGet (slOf (n + i)) t' = v) ∧
    ∀ m, m < 512 → (m < n ∨ n + vs.length ≤ m) → sGet (slOf m) t' = sGet (slOf m) t
  | [], n, t, k, _ => ⟨t, fun _ => rfl, fun i v h => by simp at h, fun _ _ _ => rfl⟩
  | v :: vs, n, t, k, hl => by
    simp only [List.length_cons] at hl
    obtain ⟨t1, h1, h2, h3⟩ := sPut_ok (slOf n) v t
    obtain ⟨t2, g1, g2, g3⟩ := slots_ok vs (n + 1) t1 k (by omega)
    have e : ∀ k', slots (v :: vs) n t k' = sPut (slOf n) v t fun t => slots vs (n + 1) t k' := fun _ => rfl
    refine ⟨t2, fun k' => by rw [e, h1, g1], fun i u hi => ?_, fun m hm hmn => ?_⟩
    · cases i with
      | zero =>
        simp at hi
        subst hi
        rw [Nat.add_zero, g3 n (by omega) (.inl (by omega)), h2]
      | succ i =>
        have := g2 i u (by simpa using hi)
        rwa [show n + 1 + i = n + (i + 1) by omega] at this
    · rw [g3 m hm (by simp at hmn; omega), h3 _ (fun e => by have := slOf_inj hm (by omega) e; simp at hmn; omega)]
theorem zero_slot (s : Sl) : sGet s F.zero = .u := by
  obtain ⟨x, y, z⟩ := s
  cases x <;> cases y <;> cases z <;> rfl
/-- a function that is known -/
def SpOk (P : Program) (f : FuncId) (g : Sp) : Prop := ∀ vs h k, g vs h k = true → ∃ v h', (∀ k', g vs h k' = k' v h') ∧ KeepF h h' ∧ B.val h.next ≤ B.val h'.next ∧
  ∀ ρ w w0 args, LRel ρ vs args → HRel ρ h w w0 →
    (callFunc f args.toArray).run P w = .ok (.enter f args.toArray) w ∧ Calls P f args.toArray w fun e w' => ∃ x, e = .returned x ∧ Done h.floor ρ w0 v h' x w'
def TbOk (P : Program) (tb : Nat → Option Sp) : Prop := ∀ f g, tb f = some g → SpOk P f g
end
/-- a function, if its code is sound -/
theorem fnRun_wp {P : Program} {f : FuncId} {fn : Func} {body : Code} (hfn' : P.funcs[f]? = some fn) (hbd : fn.body = some body) (hnm : (fn.name == "runtime.NumGoroutine") = false) {run : F → H → (X → F → H → Bool) → Bool}
    (I : F → Prop) (hE : ∀ t h k, I t → run t h k = true → ∃ x t' h', (∀ k', run t h k' = k' x t' h') ∧ KeepF h h' ∧ B.val h.next ≤ B.val h'.next ∧ CodeSound P fn.ntmps body t h x t' h') (vs : List V) (h : H) (k : V → H → Bool) (hI : ∀ t, (∀ K, slots vs 0 F.zero K = K t) → I t)
    (hk : (ifK (Nat.ble vs.length fn.ntmps) fun _ => ifK (Nat.ble vs.length 512) fun _ => slots vs 0 F.zero fun t => run t h (retK (fn.results.toList.map (rsOf P)) k)) = true) :
    ∃ v h', (∀ k', (ifK (Nat.ble vs.length fn.ntmps) fun _ => ifK (Nat.ble vs.length 512) fun _ => slots vs 0 F.zero fun t => run t h (retK (fn.results.toList.map (rsOf P)) k')) = k' v h') ∧ KeepF h h' ∧ B.val h.next ≤ B.val h'.next ∧
      ∀ ρ w w0 args, LRel ρ vs args → HRel ρ h w w0 →
        (callFunc f args.toArray).run P w = .ok (.enter f args.toArray) w ∧ body.wp P (bodyPost P fn fun e w' => ∃ x, e = .returned x ∧ Done h.floor ρ w0 v h' x w') { tmps := args.toArray ++ Array.replicate (fn.ntmps - args.toArray.size) undef, defers := [] } w := by
  obtain ⟨hb1, hk⟩ := ifK_ok hk
  obtain ⟨hb2, hk⟩ := ifK_ok hk
  have hl1 : vs.length ≤ fn.ntmps := Nat.le_of_ble_eq_true hb1
  have hl2 : vs.length ≤ 512 := Nat.le_of_ble_eq_true hb2
  obtain ⟨t0, s1, s2, s3⟩ := slots_ok vs 0 F.zero (fun _ => true) (by omega)
  rw [s1] at hk
  obtain ⟨x, t', h', x1, x2, x3, x4⟩ := hE _ _ _ (hI t0 s1) hk
  rw [x1] at hk
  have hret : ∃ vs', (∀ k', retK (fn.results.toList.map (rsOf P)) k' x t' h' = k' (one vs') h') ∧ (x = .normal ∨ x = .ret) ∧
      ∀ ρ a w w0, ARel ρ fn.ntmps t' a → HRel ρ h' w w0 → ∃ y, VRel ρ (one vs') y ∧ (results fn a.tmps).run P w = .ok y w := by
    cases x with
    | exit id => exact Bool.noConfusion hk
    | normal =>
      have hk' : (resK (fn.results.toList.map (rsOf P)) t' h' fun vs => forceV (one vs) fun v => k v h') = true := hk
      obtain ⟨vs', r1, r2⟩ := results_ok (nt := fn.ntmps) hk'
      exact ⟨vs', fun k' => by show (resK (fn.results.toList.map (rsOf P)) t' h' fun vs => forceV (one vs) fun v => k' v h') = _; rw [r1, forceV_eq], .inl rfl, r2⟩
    | ret =>
      have hk' : (resK (fn.results.toList.map (rsOf P)) t' h' fun vs => forceV (one vs) fun v => k v h') = true := hk
      obtain ⟨vs', r1, r2⟩ := results_ok (nt := fn.ntmps) hk'
      exact ⟨vs', fun k' => by show (resK (fn.results.toList.map (rsOf P)) t' h' fun vs => forceV (one vs) fun v => k' v h') = _; rw [r1, forceV_eq], .inr rfl, r2⟩
  obtain ⟨vs', r1, r2, r3⟩ := hret
  refine ⟨one vs', h', fun k' => by rw [hb1, hb2]; simp only [ifK_true]; rw [s1, x1, r1], x2, x3, fun ρ w w0 args hargs R => ?_⟩
  have hal := hargs.length
  constructor
  · have hp : (program : Sem Program).run P w = .ok P w := rfl
    unfold callFunc
    simp only [Sem.run_bind, hp, Result.andThen_ok, hfn', hnm, Bool.false_eq_true, if_false, hbd, Option.isNone_some]
    rfl
  · have A0 : ARel ρ fn.ntmps t0 { tmps := args.toArray ++ Array.replicate (fn.ntmps - args.toArray.size) undef, defers := [] } := by
      refine ⟨rfl, by simp; omega, fun m hm => ?_⟩
      by_cases hmv : m < vs.length
      · have hv : vs[m]? = some (vs[m]'hmv) := by simp
        obtain ⟨y, y1, y2⟩ := hargs.get hv
        have := s2 m _ hv
        rw [Nat.zero_add] at this
        rw [this]
        have hy : (args.toArray ++ Array.replicate (fn.ntmps - args.toArray.size) undef).getD m undef = y := by
          have hma : m < args.length := by omega
          rw [Array.getD_eq_getD_getElem?, Array.getElem?_append_left (by simpa using hma)]
          simp [y1]
        rw [hy]; exact y2
      · rw [s3 m hm (.inr (by omega)), zero_slot]; trivial
    refine x4 ρ _ w w0 _ A0 R fun ρ' a' w' hle A' R' => ?_
    obtain ⟨y, y1, y2⟩ := r3 ρ' a' w' w0 A' R'
    rcases r2 with rfl | rfl
    · exact ⟨A'.defers, y, y2, y, rfl, ρ', hle, y1, R'⟩
    · exact ⟨A'.defers, y, y2, y, rfl, ρ', hle, y1, R'⟩
theorem fnRun_ok2 {P : Program} {f : FuncId} {fn : Func} {body : Code} (hfn' : P.funcs[f]? = some fn) (hbd : fn.body = some body) (hnm : (fn.name == "runtime.NumGoroutine") = false) {run : F → H → (X → F → H → Bool) → Bool}
    (I : F → Prop) (hE : ∀ t h k, I t → run t h k = true → ∃ x t' h', (∀ k', run t h k' = k' x t' h') ∧ KeepF h h' ∧ B.val h.next ≤ B.val h'.next ∧ CodeSound P fn.ntmps body t h x t' h') (vs : List V) (h : H) (k : V → H → Bool) (hI : ∀ t, (∀ K, slots vs 0 F.zero K = K t) → I t)
    (hk : (ifK (Nat.ble vs.length fn.ntmps) fun _ => ifK (Nat.ble vs.length 512) fun _ => slots vs 0 F.zero fun t => run t h (retK (fn.results.toList.map (rsOf P)) k)) = true) :
    ∃ v h', (∀ k', (ifK (Nat.ble vs.length fn.ntmps) fun _ => ifK (Nat.ble vs.length 512) fun _ => slots vs 0 F.zero fun t => run t h (retK (fn.results.toList.map (rsOf P)) k')) = k' v h') ∧ KeepF h h' ∧ B.val h.next ≤ B.val h'.next ∧
      ∀ ρ w w0 args, LRel ρ vs args → HRel ρ h w w0 →
        (callFunc f args.toArray).run P w = .ok (.enter f args.toArray) w ∧ Calls P f args.toArray w fun e w' => ∃ x, e = .returned x ∧ Done h.floor ρ w0 v h' x w' := by
  obtain ⟨v, h', a1, a2, a3, a4⟩ := fnRun_wp hfn' hbd hnm I hE vs h k hI hk
  exact ⟨v, h', a1, a2, a3, fun ρ w w0 args hargs R => ⟨(a4 ρ w w0 args hargs R).1, calls_of_wp hfn' hbd (a4 ρ w w0 args hargs R).2⟩⟩
theorem fnRun_ok {P : Program} {f : FuncId} {fn : Func} {body : Code} (hfn' : P.funcs[f]? = some fn) (hbd : fn.body = some body) (hnm : (fn.name == "runtime.NumGoroutine") = false) {run : F → H → (X → F → H → Bool) → Bool}
    (hE : ∀ t h k, run t h k = true → ∃ x t' h', (∀ k', run t h k' = k' x t' h') ∧ KeepF h h' ∧ B.val h.next ≤ B.val h'.next ∧ CodeSound P fn.ntmps body t h x t' h') (vs : List V) (h : H) (k : V → H → Bool)
    (hk : (ifK (Nat.ble vs.length fn.ntmps) fun _ => ifK (Nat.ble vs.length 512) fun _ => slots vs 0 F.zero fun t => run t h (retK (fn.results.toList.map (rsOf P)) k)) = true) :
    ∃ v h', (∀ k', (ifK (Nat.ble vs.length fn.ntmps) fun _ => ifK (Nat.ble vs.length 512) fun _ => slots vs 0 F.zero fun t => run t h (retK (fn.results.toList.map (rsOf P)) k')) = k' v h') ∧ KeepF h h' ∧ B.val h.next ≤ B.val h'.next ∧
      ∀ ρ w w0 args, LRel ρ vs args → HRel ρ h w w0 →
        (callFunc f args.toArray).run P w = .ok (.enter f args.toArray) w ∧ Calls P f args.toArray w fun e w' => ∃ x, e = .returned x ∧ Done h.floor ρ w0 v h' x w' :=
  fnRun_ok2 hfn' hbd hnm (fun _ => True) (fun t h k _ hk => hE t h k hk) vs h k (fun _ _ => trivial) hk
theorem cf_ok {tb : Nat → Option Sp} {P : Program} (htb : TbOk P tb) {n : Nat} (hE : ExOk tb P n) : CfOk P (callF tb (exec tb (compFn P) n) (compFn P)) := by
  intro f vs h k hk
  cases htf : tb f with
  | some g =>
    have e : ∀ k', callF tb (exec tb (compFn P) n) (compFn P) f vs h k' = g vs h k' := fun k' => by unfold callF; rw [htf]
    rw [e] at hk
    obtain ⟨v, h', a1, a2⟩ := htb f g htf vs h k hk
    exact ⟨v, h', fun k' => by rw [e, a1], a2⟩
  | none =>
  have e : ∀ k', callF tb (exec tb (compFn P) n) (compFn P) f vs h k' = CF.rec (motive := fun _ => Ex → List V → H → (V → H → Bool) → Bool) (fun nt body rs ex args h k => ifK (Nat.ble args.length nt) fun _ => ifK (Nat.ble args.length 512) fun _ => slots args 0 F.zero fun t => ex body t h (retK rs k)) (compFn P f) (exec tb (compFn P) n) vs h k' := fun k' => by unfold callF; rw [htf]
  rw [e] at hk
  cases hfn : P.funcs.toList[f]? with
  | none =>
    have hc : compFn P f = ⟨0, .bad, []⟩ := by simp only [compFn, hfn]
    rw [hc] at hk
    have hk' : (ifK (Nat.ble vs.length 0) fun _ => ifK (Nat.ble vs.length 512) fun _ => slots vs 0 F.zero fun t => exec tb (compFn P) n .bad t h (retK [] k)) = true := hk
    obtain ⟨hb, hk'⟩ := ifK_ok hk'
    obtain ⟨_, hk'⟩ := ifK_ok hk'
    have hl : vs.length ≤ 0 := Nat.le_of_ble_eq_true hb
    obtain ⟨t', s1, _⟩ := slots_ok vs 0 F.zero (fun _ => true) (by omega)
    rw [s1] at hk'
    cases n <;> exact Bool.noConfusion hk'
  | some fn =>
    have hfn' : P.funcs[f]? = some fn := by simpa using hfn
    cases hbd : fn.body with
    | none =>
      have hc : compFn P f = ⟨0, .bad, []⟩ := by simp only [compFn, hfn, hbd]
      rw [hc] at hk
      have hk' : (ifK (Nat.ble vs.length 0) fun _ => ifK (Nat.ble vs.length 512) fun _ => slots vs 0 F.zero fun t => exec tb (compFn P) n .bad t h (retK [] k)) = true := hk
      obtain ⟨hb, hk'⟩ := ifK_ok hk'
      obtain ⟨_, hk'⟩ := ifK_ok hk'
      have hl : vs.length ≤ 0 := Nat.le_of_ble_eq_true hb
      obtain ⟨t', s1, _⟩ := slots_ok vs 0 F.zero (fun _ => true) (by omega)
      rw [s1] at hk'
      cases n <;> exact Bool.noConfusion hk'
    | some body =>
      cases hnm : (fn.name == "runtime.NumGoroutine") with
      | true =>
        have hc : compFn P f = ⟨0, .bad, []⟩ := by simp only [compFn, hfn, hbd, hnm]
        rw [hc] at hk
        have hk' : (ifK (Nat.ble vs.length 0) fun _ => ifK (Nat.ble vs.length 512) fun _ => slots vs 0 F.zero fun t => exec tb (compFn P) n .bad t h (retK [] k)) = true := hk
        obtain ⟨hb, hk'⟩ := ifK_ok hk'
        obtain ⟨_, hk'⟩ := ifK_ok hk'
        have hl : vs.length ≤ 0 := Nat.le_of_ble_eq_true hb
        obtain ⟨t', s1, _⟩ := slots_ok vs 0 F.zero (fun _ => true) (by omega)
        rw [s1] at hk'
        cases n <;> exact Bool.noConfusion hk'
      | false =>
        have hc : compFn P f = ⟨fn.ntmps, comp P fn.ntmps body, fn.results.toList.map (rsOf P)⟩ := by simp only [compFn, hfn, hbd, hnm]
        have e' : ∀ k', callF tb (exec tb (compFn P) n) (compFn P) f vs h k' = (ifK (Nat.ble vs.length fn.ntmps) fun _ => ifK (Nat.ble vs.length 512) fun _ => slots vs 0 F.zero fun t => exec tb (compFn P) n (comp P fn.ntmps body) t h (retK (fn.results.toList.map (rsOf P)) k')) := by
          intro k'; rw [e, hc]
        rw [← e, e'] at hk
        obtain ⟨v, h', b1, b2⟩ := fnRun_ok hfn' hbd hnm (run := exec tb (compFn P) n (comp P fn.ntmps body)) (fun t h k hk => hE _ _ t h k hk) vs h k hk
        exact ⟨v, h', fun k' => by rw [e', b1], b2⟩
end Go.Ev

set_option linter.all false
namespace Go.Ev
open Go Go.Conc
variable [DefL]
/-- what is left of a region comes to a state of which Q holds -/
def OpsTo (P : Program) (ops : Array Oper) (l : List Nat) (Q : Exit → Act → World → Prop) (a : Act) (w : World) : Prop :=
  ∀ (b : Frame) (k : List Item) (cs : List Frame), ∃ e a' w', Q e a' w' ∧ Arrives P (lone (b.at a (.inRegion ops l :: k)) cs w) b k cs e a' w'
section
variable {P : Program} {ops : Array Oper} {i : Nat} {rest : List Nat} {o : Oper} {a : Act} {w w1 : World} {nx : Next} {Q : Exit → Act → World → Prop} {Post : Value → World → Prop}
theorem opsTo_nil (h : Q .normal a w) : OpsTo P ops [] Q a w := fun b k cs => ⟨.normal, a, w, h, .one step_region_end⟩
theorem opsTo_go (ho : ops[i]? = some o) (hw : Region.wanted o (yielded ops a.tmps) = true) (hr : (execOp a.eval o).run P w = .ok nx w1) (hn : NxOk P nx w1 Post) (hq : ∀ x w', Post x w' → OpsTo P ops rest Q (a.put o.dst x) w') :
    OpsTo P ops (i :: rest) Q a w := by
  intro b k cs
  have hg := stepG_op (P := P) (b := b) (k := k) (cs := cs) (w := w) (rest := rest) ho hw
  have hfin : ∀ v, (b.at a (.inRegion ops (i :: rest) :: k)).finish v = b.at (a.put o.dst v) (.inRegion ops rest :: k) := by
    intro v; rw [Frame.finish_at, ho]; rfl
  cases nx with
  | value v =>
    obtain ⟨e, a', w', q, r⟩ := hq v w1 hn b k cs
    exact ⟨e, a', w', q, .of_steps (.one (step_lone_go (by rw [hg, ← hfin]; simp [stepG.apply, hr]))) r⟩
  | skip =>
    obtain ⟨e, a', w', q, r⟩ := hq undef w1 hn b k cs
    exact ⟨e, a', w', q, .of_steps (.one (step_lone_go (by rw [hg, ← hfin]; simp [stepG.apply, hr]))) r⟩
  | enter f args =>
    have henter : step P (lone (b.at a (.inRegion ops (i :: rest) :: k)) cs w) = .next (lone (Frame.enter P f args .normal) (b.at a (.inRegion ops (i :: rest) :: k) :: cs) w1) :=
      step_lone_go (by rw [hg]; simp [stepG.apply, hr, Frame.at])
    obtain ⟨e0, w2, fr, ⟨x, rfl, hp⟩, hs, _, hl⟩ := hn (b.at a (.inRegion ops (i :: rest) :: k) :: cs)
    obtain ⟨e, a', w', q, r⟩ := hq x w2 hp b k cs
    refine ⟨e, a', w', q, .of_steps (.head henter (Steps.trans hs (.one ?_))) r⟩
    rw [← hfin]; exact step_leave_returned hl
  | _ => exact hn.elim
theorem opsTo_skip (ho : ops[i]? = some o) (hw : Region.wanted o (yielded ops a.tmps) = false) (hq : OpsTo P ops rest Q (a.put o.dst undef) w) : OpsTo P ops (i :: rest) Q a w := by
  intro b k cs
  obtain ⟨e, a', w', q, r⟩ := hq b k cs
  have hs := step_op_skip (P := P) (b := b) (a := a) (k := k) (cs := cs) (w := w) (ops := ops) (i := i) (rest := rest) (by simp [ho, hw])
  simp only [ho, Option.bind_some] at hs
  exact ⟨e, a', w', q, .of_steps (.one hs) r⟩
theorem opsTo_comm {cases : Array CommCase} {bl : Bool} {shp : CommShape} (ho : ops[i]? = some o) (hw : Region.wanted o (yielded ops a.tmps) = true) (hr : (execOp a.eval o).run P w = .ok (.comm cases bl shp) w)
    (hs : ∀ fr cs es, stepG P true (Conc.G fr cs) w = .comm (Conc.G fr cs) cases bl shp w es → ∃ x w', step P (solo (Conc.G fr cs) w) = .next (solo (Conc.G (fr.finish x) cs) w') ∧ Post x w')
    (hq : ∀ x w', Post x w' → OpsTo P ops rest Q (a.put o.dst x) w') : OpsTo P ops (i :: rest) Q a w := by
  intro b k cs
  have hfin : ∀ v, (b.at a (.inRegion ops (i :: rest) :: k)).finish v = b.at (a.put o.dst v) (.inRegion ops rest :: k) := by
    intro v; rw [Frame.finish_at, ho]; rfl
  have hg : ∃ es, stepG P true (Conc.G (b.at a (.inRegion ops (i :: rest) :: k)) cs) w = .comm (Conc.G (b.at a (.inRegion ops (i :: rest) :: k)) cs) cases bl shp w es := by
    rw [stepG_oper ho hw]
    by_cases hk : (b.kind == CallKind.early) = true
    · exact ⟨_, by simp [stepG.apply, hr, Conc.G, Frame.at, hk, GStep.after]; rfl⟩
    · exact ⟨_, by simp [stepG.apply, hr, Conc.G, Frame.at, hk, GStep.after]; rfl⟩
  obtain ⟨es, hg⟩ := hg
  obtain ⟨x, w', h1, h2⟩ := hs _ _ _ hg
  rw [hfin] at h1
  obtain ⟨e, a', w2, q, r⟩ := hq x w' h2 b k cs
  exact ⟨e, a', w2, q, .of_steps (.one h1) r⟩
end
theorem op_to {P : Program} {cf : CallF} (hcf : CfOk P cf) {nt : Nat} {ops : Array Oper} {i : Nat} {o : Oper} (ho : ops[i]? = some o) {bar : Bool} {t : F} {h : H} {ih : F → H → (F → H → Bool) → Bool} {k : F → H → Bool}
    (hk : opK ⟨compG nt ops.toList o.guard, dOf nt o.dst, bar, compOp P o.op⟩ cf ih t h k = true) :
    ∃ t' h', (∀ k', opK ⟨compG nt ops.toList o.guard, dOf nt o.dst, bar, compOp P o.op⟩ cf ih t h k' = ih t' h' k') ∧ KeepF h h' ∧ B.val h.next ≤ B.val h'.next ∧
      ∀ ρ a w w0 rest (Q : Exit → Act → World → Prop), ARel ρ nt t a → HRel ρ h w w0 → (∀ ρ' a' w', Ext h.floor ρ ρ' → ARel ρ' nt t' a' → HRel ρ' h' w' w0 → OpsTo P ops rest Q a' w') → OpsTo P ops (i :: rest) Q a w := by
  have e : ∀ k', opK ⟨compG nt ops.toList o.guard, dOf nt o.dst, bar, compOp P o.op⟩ cf ih t h k' = guardK (compG nt ops.toList o.guard) t fun b => opGo b (compOp P o.op) (dOf nt o.dst) cf ih t h k' := fun _ => rfl
  rw [e] at hk
  obtain ⟨b, g1, g2⟩ := guard_ok hk
  rw [g1] at hk
  cases b with
  | false =>
    have e2 : ∀ k', opGo false (compOp P o.op) (dOf nt o.dst) cf ih t h k' = putD (dOf nt o.dst) (.tu []) t fun t => ih t h k' := fun _ => rfl
    rw [e2] at hk
    obtain ⟨t', p1, p2⟩ := dOf_ok hk
    refine ⟨t', h, fun k' => by rw [e, g1, e2, p1], KeepF.refl h, Nat.le_refl _, fun ρ a w w0 rest Q A R hn => ?_⟩
    exact opsTo_skip ho (g2 ρ a A.size (fun d _ hd => A.slot d hd)) (hn ρ _ w (Ext.refl _ ρ) (p2 ρ a undef A ⟨#[], rfl, trivial⟩) R)
  | true =>
    have e2 : ∀ k', opGo true (compOp P o.op) (dOf nt o.dst) cf ih t h k' = runK (compOp P o.op) cf t h (fun v h => putD (dOf nt o.dst) v t fun t => ih t h k') := fun _ => rfl
    rw [e2] at hk
    obtain ⟨v, h', r1, r2, r3, r4, _⟩ := compOp_ok P o cf hcf t h _ hk
    rw [r1] at hk
    obtain ⟨t', p1, p2⟩ := dOf_ok hk
    refine ⟨t', h', fun k' => by rw [e, g1, e2, r1, p1], r2, r3, fun ρ a w w0 rest Q A R hn => ?_⟩
    obtain ⟨nx, w1, x1, x2⟩ := r4 ρ a w w0 (A.ops _) R
    exact opsTo_go ho (g2 ρ a A.size (fun d _ hd => A.slot d hd)) x1 x2 fun x w' ⟨ρ', y1, y2, y3⟩ => hn ρ' _ w' y1 (p2 ρ' a x (A.up y1.1) y2) y3
theorem ops_to {P : Program} {cf : CallF} (hcf : CfOk P cf) {nt : Nat} {ops : Array Oper} (bars : Nat → Bool) : ∀ (l : List Oper) (n : Nat), (ops.toList.drop n).take l.length = l → ∀ (t : F) (h : H) (k : F → H → Bool),
    execOps cf (compOpsWith bars P nt ops.toList (compOp P) n l) t h k = true →
    ∃ t' h', (∀ k', execOps cf (compOpsWith bars P nt ops.toList (compOp P) n l) t h k' = k' t' h') ∧ KeepF h h' ∧ B.val h.next ≤ B.val h'.next ∧
      ∀ ρ a w w0 rest (Q : Exit → Act → World → Prop), ARel ρ nt t a → HRel ρ h w w0 → (∀ ρ' a' w', Ext h.floor ρ ρ' → ARel ρ' nt t' a' → HRel ρ' h' w' w0 → OpsTo P ops rest Q a' w') →
        OpsTo P ops (List.range' n l.length ++ rest) Q a w := by
  intro l
  induction l with
  | nil => intro n hl t h k hk; exact ⟨t, h, fun _ => rfl, KeepF.refl h, Nat.le_refl _, fun ρ a w w0 rest Q A R hq => hq ρ a w (Ext.refl _ ρ) A R⟩
  | cons o l ih =>
    intro n hl t h k hk
    have e : ∀ k', execOps cf (compOpsWith bars P nt ops.toList (compOp P) n (o :: l)) t h k' =
      opK ⟨compG nt ops.toList o.guard, dOf nt o.dst, bars n, compOp P o.op⟩ cf (execOps cf (compOpsWith bars P nt ops.toList (compOp P) (n + 1) l)) t h k' := fun _ => rfl
    rw [e] at hk
    have hn : ops[n]? = some o := by
      have : ops.toList[n]? = some o := by
        have := congrArg (fun l => l[0]?) hl
        simpa using this
      simpa using this
    obtain ⟨t1, h1, a1, a2, a3, a4⟩ := op_to hcf hn hk
    rw [a1] at hk
    have hl' : (ops.toList.drop (n + 1)).take l.length = l := by
      have hd : ops.toList.drop n = o :: ops.toList.drop (n + 1) := by
        have h5 : n < ops.toList.length := by
          have := (Array.getElem?_eq_some_iff.1 hn).1; simpa using this
        rw [List.drop_eq_getElem_cons h5]
        congr 1
        have := (Array.getElem?_eq_some_iff.1 hn).2
        simpa using this
      rw [hd] at hl
      simpa using hl
    obtain ⟨t2, h2, b1, b2, b3, b4⟩ := ih (n + 1) hl' t1 h1 k hk
    refine ⟨t2, h2, fun k' => by rw [e, a1, b1], KeepF.trans a2 a3 b2, Nat.le_trans a3 b3, fun ρ a w w0 rest Q A R hq => ?_⟩
    rw [List.length_cons, List.range'_succ, List.cons_append]
    exact a4 ρ a w w0 _ Q A R fun ρ' a' w' l1 A' R' => b4 ρ' a' w' w0 rest Q A' R' fun ρ'' a'' w'' l2 A'' R'' => hq ρ'' a'' w'' (Ext.trans l1 (by rw [← a2.1]; exact l2)) A'' R''
theorem commAt_lt : ∀ {l : List Oper} {n k : Nat}, commAt n l = some k → ∃ j, k = n + j ∧ j < l.length
  | [], n, k, h => by cases h
  | o :: r, n, k, h => by
    have h' : (match isComm o.op with | true => some n | false => commAt (n + 1) r) = some k := h
    cases hc : isComm o.op with
    | true => rw [hc] at h'; cases h'; exact ⟨0, rfl, by simp⟩
    | false =>
      rw [hc] at h'
      obtain ⟨j, e, hj⟩ := commAt_lt h'
      exact ⟨j + 1, by omega, by simpa using hj⟩
theorem comm_region {P : Program} {cf : CallF} (hcf : CfOk P cf) {nt id : Nat} {ops : Array Oper} {n : Nat} {dst : Option Tmp} {op : Op} {e1 : TypeId} {e2 : String} {e3 : Array Edge} (hn : ops[n]? = some ⟨dst, op, e1, e2, e3, none⟩)
    (hcm : CmOk P ⟨dst, op, e1, e2, e3, none⟩ (cmK (compCm P op))) {t : F} {h : H} {k : X → F → H → Bool}
    (hk : (execOps cf (compOpsWith (fun _ => true) P nt ops.toList (compOp P) 0 (ops.toList.take n)) t h fun t h => cmK (compCm P op) t h fun v h => putD (dOf nt dst) v t fun t => execOps cf (compOpsWith (fun _ => true) P nt ops.toList (compOp P) (n + 1) (ops.toList.drop (n + 1))) t h (regK k)) = true) :
    ∃ t' h', (∀ k' : X → F → H → Bool, (execOps cf (compOpsWith (fun _ => true) P nt ops.toList (compOp P) 0 (ops.toList.take n)) t h fun t h => cmK (compCm P op) t h fun v h => putD (dOf nt dst) v t fun t => execOps cf (compOpsWith (fun _ => true) P nt ops.toList (compOp P) (n + 1) (ops.toList.drop (n + 1))) t h (regK k')) = k' .normal t' h') ∧
      KeepF h h' ∧ B.val h.next ≤ B.val h'.next ∧ CodeSound P nt (.region id ops false) t h .normal t' h' := by
  have hlt : n < ops.size := (Array.getElem?_eq_some_iff.1 hn).1
  have hlen : (ops.toList.take n).length = n := by simp; omega
  obtain ⟨t1, h1, a1, a2, a3, a4⟩ := ops_to hcf (nt := nt) (ops := ops) (fun _ => true) (ops.toList.take n) 0 (by simp) t h _ hk
  rw [a1] at hk
  obtain ⟨v, h2, b1, b2, b3, b4⟩ := hcm t1 h1 _ hk
  rw [b1] at hk
  obtain ⟨t2, c1, c2⟩ := dOf_ok hk
  rw [c1] at hk
  obtain ⟨t3, h3, d1, d2, d3, d4⟩ := ops_to hcf (nt := nt) (ops := ops) (fun _ => true) (ops.toList.drop (n + 1)) (n + 1) (List.take_of_length_le (Nat.le_refl _)) t2 h2 _ hk
  refine ⟨t3, h3, fun k' => by rw [a1, b1, c1, d1]; rfl, KeepF.trans (KeepF.trans a2 a3 b2) (Nat.le_trans a3 b3) d2, Nat.le_trans a3 (Nat.le_trans b3 d3), fun ρ a w w0 Q A R hQ => ?_⟩
  have hrange : List.range ops.size = List.range' 0 (ops.toList.take n).length ++ (n :: (List.range' (n + 1) (ops.toList.drop (n + 1)).length ++ [])) := by
    rw [hlen, List.append_nil, ← List.range'_succ, List.range_eq_range']
    have : (ops.toList.drop (n + 1)).length + 1 = ops.size - n := by simp; omega
    rw [this]
    have h9 := List.range'_append_1 (s := 0) (m := n) (n := ops.size - n)
    rw [Nat.zero_add] at h9
    rw [h9]
    congr 1
    omega
  have main : OpsTo P ops (List.range ops.size) Q a w := by
    rw [hrange]
    refine a4 ρ a w w0 _ Q A R fun ρ1 a1' w1 l1 A1 R1 => ?_
    obtain ⟨cases, bl, shp, x1, x2⟩ := b4 ρ1 a1' w1 w0 (A1.ops _) R1
    refine opsTo_comm hn (by simp [Region.wanted]) x1 x2 fun x w2 ⟨ρ2, y1, y2, y3⟩ => ?_
    refine d4 ρ2 _ w2 w0 [] Q (c2 ρ2 a1' x (A1.up y1.1) y2) y3 fun ρ3 a3' w3 l3 A3 R3 => opsTo_nil ?_
    exact hQ ρ3 a3' w3 (Ext.trans (Ext.trans l1 (by rw [← a2.1]; exact y1)) (by rw [← a2.1, ← b2.1]; exact l3)) A3 R3
  exact fun b k cs => let ⟨e, a', w', q, r⟩ := main b k cs; ⟨e, a', w', q, .of_steps (.one step_region) r⟩
def isReg : CC → Bool
  | .region _ => true
  | .comm _ _ _ _ => true
  | .draws _ _ => true
  | .bad => true
  | _ => false
theorem compComm_reg (P : Program) (nt : Nat) (ops : List Oper) (n : Nat) : (∃ a b c d, compComm P nt ops n = .comm a b c d) ∨ compComm P nt ops n = .bad := by
  unfold compComm
  split
  · exact .inl ⟨_, _, _, _, rfl⟩
  · exact .inr rfl
theorem compReg_false (P : Program) (nt : Nat) (ops : List Oper) : (commAt 0 ops = none ∧ compRegion P nt ops false = .region (compOpsWith (fun _ => true) P nt ops (compOp P) 0 ops)) ∨ (∃ a b c d, compRegion P nt ops false = .comm a b c d) ∨ compRegion P nt ops false = .bad := by
  cases hc : commAt 0 ops with
  | none => exact .inl ⟨rfl, by simp only [compRegion, hc]⟩
  | some n =>
    have e : compRegion P nt ops false = compComm P nt ops n := by simp only [compRegion, hc]
    rw [e]
    exact .inr (compComm_reg P nt ops n)
theorem reg_no {P : Program} {nt : Nat} {ops : List Oper} {draw : Bool} {cc : CC} (h : compRegion P nt ops draw = cc) (hc : isReg cc = false) : False := by
  cases draw with
  | false =>
    rcases compReg_false P nt ops with ⟨_, e⟩ | ⟨_, _, _, _, e⟩ | e <;> (rw [e] at h; subst h; cases hc)
  | true =>
    unfold compRegion at h
    simp only at h
    split at h <;> (subst h; cases hc)
/-- a region in its own order -/
theorem reg_is {P : Program} {nt : Nat} {ops : List Oper} {draw : Bool} {l : List CO} (h : compRegion P nt ops draw = .region l) : draw = false ∧ l = compOpsWith (fun _ => true) P nt ops (compOp P) 0 ops := by
  cases draw with
  | false =>
    rcases compReg_false P nt ops with ⟨_, e⟩ | ⟨_, _, _, _, e⟩ | e
    · rw [e] at h; cases h; exact ⟨rfl, rfl⟩
    · rw [e] at h; cases h
    · rw [e] at h; cases h
  | true =>
    unfold compRegion at h
    simp only at h
    split at h <;> cases h
/-- .. in a drawn one -/
theorem reg_dr {P : Program} {nt : Nat} {ops : List Oper} {draw : Bool} {l : List CO} {ch : Option (List Nat × List (Nat × List Nat))} (h : compRegion P nt ops draw = .draws l ch) :
    draw = true ∧ drawsOk ops = true ∧ CC.draws (compOpsWith (barAt P ops (befs ops [])) P nt ops (compOp P) 0 ops) (chainOf P (barAt P ops (befs ops [])) (befs ops []) ops) = .draws l ch := by
  cases draw with
  | false =>
    rcases compReg_false P nt ops with ⟨_, e⟩ | ⟨_, _, _, _, e⟩ | e <;> (rw [e] at h; cases h)
  | true =>
    unfold compRegion at h
    simp only at h
    split at h
    · rename_i hd; exact ⟨rfl, hd, h⟩
    · cases h
end Go.Ev

set_option linter.all false
namespace Go.Ev
open Go
variable [DefL]
inductive Reach (ops : List Oper) : Nat → Nat → Prop
  | one {j : Nat} {o : Oper} {e : Edge} : ops[j]? = some o → e ∈ o.after.toList → Region.binds .any e = true → Reach ops j e.on
  | more {j : Nat} {o : Oper} {e : Edge} {i : Nat} : ops[j]? = some o → e ∈ o.after.toList → Region.binds .any e = true → Reach ops e.on i → Reach ops j i
theorem befOf_ok (done : List Nat) : ∀ (l : List Edge) (acc i : Nat), Nat.testBit (befOf done l acc) i = true →
    Nat.testBit acc i = true ∨ ∃ e ∈ l, Region.binds .any e = true ∧ (i = e.on ∨ Nat.testBit ((done[e.on]?).getD 0) i = true)
  | [], acc, i, h => .inl h
  | e :: r, acc, i, h => by
    unfold befOf at h
    cases hb : Region.binds .any e with
    | false =>
      rw [hb] at h
      rcases befOf_ok done r acc i h with h | ⟨e', h1, h2, h3⟩
      · exact .inl h
      · exact .inr ⟨e', by simp [h1], h2, h3⟩
    | true =>
      rw [hb] at h
      rcases befOf_ok done r _ i h with h | ⟨e', h1, h2, h3⟩
      · have h' : Nat.testBit ((acc ||| 2 ^ e.on) ||| (done[e.on]?).getD 0) i = true := h
        rw [Nat.testBit_or, Nat.testBit_or, Nat.testBit_two_pow] at h'
        simp only [Bool.or_eq_true, decide_eq_true_eq] at h'
        rcases h' with (h' | h') | h'
        · exact .inl h'
        · exact .inr ⟨e, by simp, hb, .inl h'.symm⟩
        · exact .inr ⟨e, by simp, hb, .inr h'⟩
      · exact .inr ⟨e', by simp [h1], h2, h3⟩
theorem befs_ok (ops : List Oper) : ∀ (l : List Oper) (done : List Nat), ops.drop done.length = l → (∀ j i, Nat.testBit ((done[j]?).getD 0) i = true → Reach ops j i) →
    ∀ j i, Nat.testBit (((befs l done)[j]?).getD 0) i = true → Reach ops j i
  | [], done, _, h => h
  | o :: l, done, hl, h => by
    unfold befs
    refine befs_ok ops l _ ?_ ?_
    · rw [List.length_append, ← List.drop_drop, hl]; rfl
    · intro j i hj
      have ho : ops[done.length]? = some o := by
        have := congrArg (fun l => l[0]?) hl
        simpa using this
      by_cases hjl : j < done.length
      · rw [List.getElem?_append_left hjl] at hj
        exact h j i hj
      · by_cases hje : j = done.length
        · subst hje
          simp at hj
          rcases befOf_ok done _ _ _ hj with h0 | ⟨e, h1, h2, h3⟩
          · simp at h0
          · rcases h3 with rfl | h3
            · exact .one ho h1 h2
            · exact .more ho h1 h2 (h _ _ h3)
        · rw [List.getElem?_eq_none (by simp; omega)] at hj
          simp at hj
theorem edgesUp_ok : ∀ (l : List Oper) (n : Nat), edgesUp n l = true → ∀ (k : Nat) o, l[k]? = some o → ∀ e ∈ o.after.toList, Region.binds .any e = true → e.on < n + k
  | [], n, h, k, o, hk, e, he, hb => by simp at hk
  | o' :: l, n, h, k, o, hk, e, he, hb => by
    unfold edgesUp at h
    simp only [Bool.and_eq_true, List.all_eq_true] at h
    cases k with
    | zero =>
      simp at hk
      subst hk
      have := h.1 e he
      simp only [hb, Bool.not_true, Bool.false_or] at this
      exact Nat.le_of_ble_eq_true this
    | succ k =>
      have := edgesUp_ok l (n + 1) h.2 k o (by simpa using hk) e he hb
      omega
theorem Reach.lt {ops : List Oper} (hu : edgesUp 0 ops = true) {j i : Nat} (h : Reach ops j i) : i < j := by
  induction h with
  | one h1 h2 h3 => have := edgesUp_ok ops 0 hu _ _ h1 _ h2 h3; omega
  | more h1 h2 h3 h4 ih => have := edgesUp_ok ops 0 hu _ _ h1 _ h2 h3; omega
def InL (listed : Array Bool) (i : Nat) : Prop := listed.getD i false = true
def Closed (ops : List Oper) (listed : Array Bool) : Prop := ∀ (j : Nat) o, ops[j]? = some o → InL listed j → ∀ e ∈ o.after.toList, Region.binds .any e = true → InL listed e.on
theorem Reach.inL {ops : List Oper} {listed : Array Bool} (hc : Closed ops listed) {j i : Nat} (h : Reach ops j i) : (∀ o, ops[j]? = some o → ∀ e ∈ o.after.toList, Region.binds .any e = true → InL listed e.on) → InL listed i := by
  induction h with
  | one h1 h2 h3 => intro hr; exact hr _ h1 _ h2 h3
  | more h1 h2 h3 h4 ih => intro hr; exact ih fun o ho e he hb => hc _ _ ho (hr _ h1 _ h2 h3) e he hb
theorem apartL_ok {a b : List Nat} (h : apartL a b = true) {x : Nat} (hx : x ∈ a) (hy : x ∈ b) : False := by
  unfold apartL at h
  rw [List.all_eq_true] at h
  have := h x hx
  rw [List.all_eq_true] at this
  have := this x hy
  simp at this
theorem zip_mem {ops : List Oper} {i : Nat} {o : Oper} (h : ops[i]? = some o) : (o, i) ∈ ops.zipIdx := by
  rw [List.mem_zipIdx_iff_getElem?]; exact h
theorem pair_ok {ops : List Oper} (h : drawsOk ops = true) {i j : Nat} {oi oj : Oper} (hi : ops[i]? = some oi) (hj : ops[j]? = some oj) (hij : i < j) : Reach ops j i ∨ slotsOk ops oi oj = true := by
  simp only [drawsOk, Bool.and_eq_true, List.all_eq_true] at h
  have hp := h.2.2 (oi, i) (zip_mem hi) (oj, j) (zip_mem hj)
  unfold pairOk at hp
  simp only [Bool.or_eq_true] at hp
  rcases hp with hp | hp | hp
  · have := Nat.le_of_ble_eq_true hp; omega
  · exact .inl (befs_ok ops ops [] rfl (fun j i h => by simp at h) j i hp)
  · exact .inr hp
theorem bar_ok {P : Program} {ops : List Oper} {i j : Nat} {oj : Oper} (hb : barAt P ops (befs ops []) i = true) (hj : ops[j]? = some oj) (hs : still P oj.op = false) (hij : i ≠ j) : Reach ops j i ∨ Reach ops i j := by
  unfold barAt at hb
  cases hi : ops[i]? with
  | none => rw [hi] at hb; cases hb
  | some oi =>
    rw [hi] at hb
    simp only [barOf, Bool.and_eq_true, List.all_eq_true] at hb
    have := hb.2 (oj, j) (zip_mem hj)
    simp only [hs, Bool.false_or, Bool.or_eq_true] at this
    rcases this with h | h | h
    · exact absurd (Nat.eq_of_beq_eq_true h) hij
    · exact .inl (befs_ok ops ops [] rfl (fun j i h => by simp at h) j i h)
    · exact .inr (befs_ok ops ops [] rfl (fun j i h => by simp at h) i j h)
theorem bar_loud {P : Program} {ops : List Oper} {i : Nat} {oi : Oper} (hb : barAt P ops (befs ops []) i = true) (hi : ops[i]? = some oi) : still P oi.op = false := by
  unfold barAt at hb
  rw [hi] at hb
  simp only [barOf, Bool.and_eq_true] at hb
  simpa using hb.1
noncomputable def Emb.below (ρ : Emb) (n : B) : Emb := fun id g => if B.val id < B.val n then ρ id g else none
theorem Emb.below_some {ρ : Emb} {n id : B} {g : Nat} {L : Loc} (h : ρ.below n id g = some L) : ρ id g = some L ∧ B.val id < B.val n := by
  unfold Emb.below at h
  split at h
  · exact ⟨h, by assumption⟩
  · cases h
theorem Emb.below_of {ρ : Emb} {n id : B} {g : Nat} {L : Loc} (h : ρ id g = some L) (hn : B.val id < B.val n) : ρ.below n id g = some L := by
  unfold Emb.below; rw [if_pos hn]; exact h
theorem HRel.later {ρ : Emb} {h h' : H} {w w0 : World} (R : HRel ρ h w w0) (hg : ∀ id g L, ρ id g = some L → h'.heap.get id = h.heap.get id) (hn : B.val h.next ≤ B.val h'.next) (hf : h'.floor = h.floor) : HRel ρ h' w w0 := by
  refine ⟨fun id g L hL => ?_, fun id g L hL => Nat.lt_of_lt_of_le (R.ids _ _ _ hL) hn, R.sep, by rw [hf]; exact Nat.le_trans R.flo hn, R.old, fun id g L hL hfl => R.up _ _ _ hL (by rw [← hf]; exact hfl), R.tp, R.os, R.out, R.siz, R.mp.of (Emb.le_refl ρ) fun id L blk h1 h2 _ _ => ⟨h1, (hg _ _ _ h1).symm.trans h2, rfl⟩, R.ito.of fun id g L blk h1 h2 _ _ => ⟨h1, (hg _ _ _ h1).symm.trans h2, rfl⟩⟩
  obtain ⟨blk, a1, a2⟩ := R.loc _ _ _ hL
  exact ⟨blk, (hg _ _ _ hL).trans a1, a2⟩
theorem HRel.congr {ρ ρ' : Emb} {h : H} {w w0 : World} (R : HRel ρ h w w0) (he : ∀ id g, ρ' id g = ρ id g) : HRel ρ' h w w0 := by
  have : ρ' = ρ := by funext id g; exact he id g
  rw [this]; exact R
theorem HRel.refloor {ρ : Emb} {h : H} {w w0 : World} (R : HRel ρ h w w0) : HRel ρ (reFloor h) w w := by
  obtain ⟨n, f, hp⟩ := h
  exact ⟨R.loc, R.ids, R.sep, Nat.le_refl _, fun _ _ => rfl, fun id g L hL hf => absurd (R.ids _ _ _ hL) (Nat.not_lt.2 hf), rfl, rfl, rfl, Nat.le_refl _, R.mp, R.ito⟩
/-- the old blocks, and new ones beside them -/
theorem HRel.merge {ρ1 ρ2 ρ3 : Emb} {h h2 : H} {w w' w0 : World} (A : HRel ρ1 h w w0) (hB : HRel ρ2 h2 w' w) (h13 : ρ1.le ρ3) (h23 : ρ2.le ρ3)
    (h3 : ∀ id g L, ρ3 id g = some L → ρ1 id g = some L ∨ (ρ2 id g = some L ∧ B.val h2.floor ≤ B.val id ∧ B.val id < B.val h.next ∧ h.heap.get id = h2.heap.get id)) : HRel ρ3 h w' w0 := by
  have A' := A.grow (w' := w') hB.old hB.siz hB.tp hB.os hB.out
  refine ⟨fun id g L hL => ?_, fun id g L hL => ?_, fun id g L id' g' L' hL hL' hbb => ?_, A.flo, A'.old, fun id g L hL hf => ?_, A'.tp, A'.os, A'.out, A'.siz, fun id L blk h1 hb2 kc h3' => ?_, fun id g L blk ob h1 hb2 hg h3' h5' => ?_⟩
  · rcases h3 _ _ _ hL with h1 | ⟨h1, _, _, hh⟩
    · obtain ⟨blk, a1, a2, a3, a4, a5, a6, a7⟩ := A'.loc _ _ _ h1
      refine ⟨blk, a1, a2, a3, a4, a5, a6, fun hm => ?_⟩
      obtain ⟨c, el, b1, b2, b3, b4⟩ := a7 hm
      refine ⟨c, el, b1, b2, b3, fun i i1 i2 => ?_⟩
      obtain ⟨v, x, d1, d2, d3⟩ := b4 i i1 i2
      exact ⟨v, x, d1, d2, VRel.up h13 _ _ d3⟩
    · obtain ⟨blk, a1, a2, a3, a4, a5, a6, a7⟩ := hB.loc _ _ _ h1
      refine ⟨blk, hh.trans a1, a2, a3, a4, a5, a6, fun hm => ?_⟩
      obtain ⟨c, el, b1, b2, b3, b4⟩ := a7 hm
      refine ⟨c, el, b1, b2, b3, fun i i1 i2 => ?_⟩
      obtain ⟨v, x, d1, d2, d3⟩ := b4 i i1 i2
      exact ⟨v, x, d1, d2, VRel.up h23 _ _ d3⟩
  · rcases h3 _ _ _ hL with h1 | ⟨h1, _, h4, _⟩
    · exact A.ids _ _ _ h1
    · exact h4
  · rcases h3 _ _ _ hL with h1 | ⟨h1, f1, _, _⟩ <;> rcases h3 _ _ _ hL' with h2' | ⟨h2', f2, _, _⟩
    · exact A.sep _ _ _ _ _ _ h1 h2' hbb
    · obtain ⟨_, _, _, a3, _⟩ := A.loc _ _ _ h1
      have := hB.up _ _ _ h2' f2
      omega
    · obtain ⟨_, _, _, a3, _⟩ := A.loc _ _ _ h2'
      have := hB.up _ _ _ h1 f1
      omega
    · exact hB.sep _ _ _ _ _ _ h1 h2' hbb
  · rcases h3 _ _ _ hL with h1 | ⟨h1, f1, _, _⟩
    · exact A.up _ _ _ h1 hf
    · exact Nat.le_trans A.siz (hB.up _ _ _ h1 f1)
  · rcases h3 _ _ _ h1 with h4 | ⟨h4, _, _, hh⟩
    · obtain ⟨o, q1, q2⟩ := A'.mp id L blk h4 hb2 kc h3'
      exact ⟨o, q1, q2.up h13⟩
    · obtain ⟨o, q1, q2⟩ := hB.mp id L blk h4 (hh.symm.trans hb2) kc h3'
      exact ⟨o, q1, q2.up h23⟩
  · rcases h3 _ _ _ h1 with h4 | ⟨h4, _, _, hh⟩
    · exact A'.ito id g L blk ob h4 hb2 hg h3' h5'
    · exact hB.ito id g L blk ob h4 (hh.symm.trans hb2) hg h3' h5'
def Looks (nt : Nat) (ops : List Oper) (o : Oper) (ρ : Emb) (t : F) (a : Act) : Prop := a.tmps.size = nt ∧ ∀ q ∈ looks ops o, q < 512 → VRel ρ (sGet (slOf q) t) (a.tmps.getD q undef)
theorem looks_ops {nt : Nat} {ops : List Oper} {o : Oper} {ρ : Emb} {t : F} {a : Act} (h : Looks nt ops o ρ t a) : ORel ρ t a o.op.operands.toList := by
  intro x hx
  cases x with
  | tmp q =>
    show VRel ρ (oV (match Nat.ble (q + 1) 512 with | true => .t (slOf q) | false => .c .u) t) _
    cases hn : Nat.ble (q + 1) 512 with
    | true => exact h.2 q (by simp only [looks, List.mem_append, List.mem_flatMap]; exact .inr ⟨_, hx, by simp [slotsOf]⟩) (Nat.le_of_ble_eq_true hn)
    | false => trivial
  | const v => exact ofConst_rel ρ v
  | global g => trivial
  | func f => exact ⟨#[], rfl, trivial⟩
structure StepOk (P : Program) (nt : Nat) (ops : Array Oper) (i : Nat) (o : Oper) (bar : Bool) (t t' : F) (h h' : H) : Prop where
  dst : ∀ q, o.dst = some q → q < nt ∧ q < 512
  rest : ∀ q, q < 512 → o.dst ≠ some q → sGet (slOf q) t' = sGet (slOf q) t
  calm : still P o.op = true → h' = h
  ex : ∃ v h2, (∀ q, o.dst = some q → sGet (slOf q) t' = v) ∧ KeepF (if bar then h else reFloor h) h2 ∧ B.val h.next ≤ B.val h2.next ∧ h' = (if bar then h2 else unFloor h h2) ∧
    (∀ ρ a w wb (K : Act → World → Prop) (Q : Exit → Act → World → Prop), Looks nt ops.toList o ρ t a → HRel ρ (if bar then h else reFloor h) w wb →
      (∀ ρ' x w', Ext (if bar then h else reFloor h).floor ρ ρ' → VRel ρ' v x → HRel ρ' h2 w' wb → K (a.put o.dst x) w') → wpOp P ops Q i K a w) ∧
    (still P o.op = true → ∀ ρ a w (K : Act → World → Prop) (Q : Exit → Act → World → Prop), Looks nt ops.toList o ρ t a → (∀ x, VRel ρ v x → K (a.put o.dst x) w) → wpOp P ops Q i K a w)
theorem putD_ok {nt : Nat} {dst : Option Tmp} {v : V} {t : F} {k : F → Bool} (hk : putD (dOf nt dst) v t k = true) :
    ∃ t', (∀ k', putD (dOf nt dst) v t k' = k' t') ∧ (∀ q, dst = some q → q < nt ∧ q < 512) ∧ (∀ q, dst = some q → sGet (slOf q) t' = v) ∧ ∀ q, q < 512 → dst ≠ some q → sGet (slOf q) t' = sGet (slOf q) t := by
  cases dst with
  | none => exact ⟨t, fun _ => rfl, (fun q h => by cases h), (fun q h => by cases h), fun _ _ _ => rfl⟩
  | some d =>
    have e : dOf nt (some d) = match Nat.ble (Nat.succ d) nt && Nat.ble (Nat.succ d) 512 with | true => .some (slOf d) | false => .bad := rfl
    rw [e] at hk ⊢
    cases hb : (Nat.ble (Nat.succ d) nt && Nat.ble (Nat.succ d) 512) with
    | false => rw [hb] at hk; exact Bool.noConfusion hk
    | true =>
      obtain ⟨t', h1, h2, h3⟩ := sPut_ok (slOf d) v t
      simp only [Bool.and_eq_true] at hb
      have hn : d < nt := Nat.le_of_ble_eq_true hb.1
      have h5 : d < 512 := Nat.le_of_ble_eq_true hb.2
      refine ⟨t', fun k' => h1 k', (fun q h => by cases h; exact ⟨hn, h5⟩), (fun q h => by cases h; exact h2), fun q hq hne => h3 _ fun e => hne (by rw [slOf_inj hq h5 e])⟩
theorem wpOp_of_wanted {P : Program} {ops : Array Oper} {Q : Exit → Act → World → Prop} {i : Nat} {o : Oper} {K : Act → World → Prop} {a : Act} {w : World} (hi : ops[i]? = some o)
    (h : if Region.wanted o (yielded ops a.tmps) then o.wp P a w K Q else K (a.put o.dst undef) w) : wpOp P ops Q i K a w := by
  unfold wpOp
  simp only [hi]
  split
  · rename_i hw; simp only [hw, if_true] at h; exact .inl h
  · rename_i hw; simp only [hw] at h; exact h
theorem reFloor_next (h : H) : (reFloor h).next = h.next := by cases h; rfl
theorem reFloor_floor (h : H) : (reFloor h).floor = h.next := by cases h; rfl
theorem reFloor_heap (h : H) : (reFloor h).heap = h.heap := by cases h; rfl
theorem unFloor_mk (h h2 : H) : unFloor h h2 = ⟨h2.next, h.floor, h2.heap⟩ := by cases h; cases h2; rfl
theorem unFloor_reFloor (h : H) : unFloor h (reFloor h) = h := by cases h; rfl
theorem dr_step {P : Program} {cf : CallF} (hcf : CfOk P cf) {nt : Nat} {ops : Array Oper} {i : Nat} {o : Oper} (hi : ops[i]? = some o) {bar : Bool} {t : F} {h : H} {ih : F → H → (F → H → Bool) → Bool} {k : F → H → Bool}
    (hk : drK ⟨compG nt ops.toList o.guard, dOf nt o.dst, bar, compOp P o.op⟩ cf ih t h k = true) :
    ∃ t' h', (∀ k', drK ⟨compG nt ops.toList o.guard, dOf nt o.dst, bar, compOp P o.op⟩ cf ih t h k' = ih t' h' k') ∧ StepOk P nt ops i o bar t t' h h' := by
  have e : ∀ k', drK ⟨compG nt ops.toList o.guard, dOf nt o.dst, bar, compOp P o.op⟩ cf ih t h k' = guardK (compG nt ops.toList o.guard) t fun b => drGo b bar (compOp P o.op) (dOf nt o.dst) cf ih t h k' := fun _ => rfl
  rw [e] at hk
  obtain ⟨b, g1, g2⟩ := guard_ok hk
  rw [g1] at hk
  have hw : ∀ ρ a, Looks nt ops.toList o ρ t a → Region.wanted o (yielded ops a.tmps) = b := fun ρ a hl =>
    g2 ρ a hl.1 fun d hd h5 => hl.2 d (by simp only [looks, List.mem_append]; exact .inl hd) h5
  cases b with
  | false =>
    have e2 : ∀ k', drGo false bar (compOp P o.op) (dOf nt o.dst) cf ih t h k' = putD (dOf nt o.dst) (.tu []) t fun t => ih t h k' := by intro k'; cases bar <;> rfl
    rw [e2] at hk
    obtain ⟨t', p1, p2, p3, p4⟩ := putD_ok hk
    refine ⟨t', h, fun k' => by rw [e, g1, e2, p1], p2, p4, fun _ => rfl, .tu [], if bar then h else reFloor h, p3, KeepF.refl _, by cases bar <;> simp [reFloor_next], by cases bar <;> simp [unFloor_reFloor], fun ρ a w wb K Q hl R hK => ?_, fun _ ρ a w K Q hl hK => ?_⟩
    · refine wpOp_of_wanted hi ?_
      rw [hw ρ a hl]
      simp only [Bool.false_eq_true, if_false]
      exact hK ρ undef w (Ext.refl _ ρ) ⟨#[], rfl, trivial⟩ R
    · refine wpOp_of_wanted hi ?_
      rw [hw ρ a hl]
      simp only [Bool.false_eq_true, if_false]
      exact hK undef ⟨#[], rfl, trivial⟩
  | true =>
    cases bar with
    | true =>
      have e2 : ∀ k', drGo true true (compOp P o.op) (dOf nt o.dst) cf ih t h k' = runK (compOp P o.op) cf t h (fun v h => putD (dOf nt o.dst) v t fun t => ih t h k') := fun _ => rfl
      rw [e2] at hk
      obtain ⟨v, h', r1, r2, r3, r4, r5⟩ := compOp_ok P o cf hcf t h _ hk
      rw [r1] at hk
      obtain ⟨t', p1, p2, p3, p4⟩ := putD_ok hk
      refine ⟨t', h', fun k' => by rw [e, g1, e2, r1, p1], p2, p4, fun hs => (r5 hs).1, v, h', p3, r2, r3, rfl, fun ρ a w wb K Q hl R hK => ?_, fun hs ρ a w K Q hl hK => ?_⟩
      · refine wpOp_of_wanted hi ?_
        rw [hw ρ a hl]
        simp only [if_true]
        obtain ⟨nx, w1, x1, x2⟩ := r4 ρ a w wb (looks_ops hl) R
        unfold Oper.wp
        rw [x1]
        exact x2.upon fun x w' ⟨ρ', y1, y2, y3⟩ => hK ρ' x w' y1 y2 y3
      · refine wpOp_of_wanted hi ?_
        rw [hw ρ a hl]
        simp only [if_true]
        obtain ⟨x, x1, x2⟩ := (r5 hs).2 ρ a w (looks_ops hl)
        unfold Oper.wp
        rw [x1]
        exact hK x x2
    | false =>
      have e2 : ∀ k', drGo true false (compOp P o.op) (dOf nt o.dst) cf ih t h k' = runK (compOp P o.op) cf t (reFloor h) (fun v h2 => putD (dOf nt o.dst) v t fun t => ih t (unFloor h h2) k') := fun _ => rfl
      rw [e2] at hk
      obtain ⟨v, h2, r1, r2, r3, r4, r5⟩ := compOp_ok P o cf hcf t (reFloor h) _ hk
      rw [r1] at hk
      obtain ⟨t', p1, p2, p3, p4⟩ := putD_ok hk
      refine ⟨t', unFloor h h2, fun k' => by rw [e, g1, e2, r1, p1], p2, p4, fun hs => by rw [(r5 hs).1, unFloor_reFloor], v, h2, p3, r2, by rw [← reFloor_next]; exact r3, rfl, fun ρ a w wb K Q hl R hK => ?_, fun hs ρ a w K Q hl hK => ?_⟩
      · refine wpOp_of_wanted hi ?_
        rw [hw ρ a hl]
        simp only [if_true]
        obtain ⟨nx, w1, x1, x2⟩ := r4 ρ a w wb (looks_ops hl) R
        unfold Oper.wp
        rw [x1]
        exact x2.upon fun x w' ⟨ρ', y1, y2, y3⟩ => hK ρ' x w' y1 y2 y3
      · refine wpOp_of_wanted hi ?_
        rw [hw ρ a hl]
        simp only [if_true]
        obtain ⟨x, x1, x2⟩ := (r5 hs).2 ρ a w (looks_ops hl)
        unfold Oper.wp
        rw [x1]
        exact hK x x2
theorem dr_trace {P : Program} {cf : CallF} (hcf : CfOk P cf) {nt : Nat} {ops : Array Oper} (bars : Nat → Bool) : ∀ (l : List Oper) (n : Nat), ops.toList.drop n = l → ∀ (t : F) (h : H) (k : F → H → Bool),
    execDr cf (compOpsWith bars P nt ops.toList (compOp P) n l) t h k = true →
    ∃ (Ts : Nat → F) (Hs : Nat → H), Ts n = t ∧ Hs n = h ∧ (∀ k', execDr cf (compOpsWith bars P nt ops.toList (compOp P) n l) t h k' = k' (Ts (n + l.length)) (Hs (n + l.length))) ∧
      ∀ (i : Nat) o, n ≤ i → ops[i]? = some o → StepOk P nt ops i o (bars i) (Ts i) (Ts (i + 1)) (Hs i) (Hs (i + 1)) := by
  intro l
  induction l with
  | nil =>
    intro n hl t h k hk
    refine ⟨fun _ => t, fun _ => h, rfl, rfl, fun _ => rfl, fun i o hni hi => ?_⟩
    have : ops.toList[i]? = none := by
      rw [List.getElem?_eq_none]
      have := congrArg List.length hl
      simp at this
      simp; omega
    rw [show ops[i]? = ops.toList[i]? by simp, this] at hi
    cases hi
  | cons o l ih =>
    intro n hl t h k hk
    have hn : ops[n]? = some o := by
      have : ops.toList[n]? = some o := by
        have := congrArg (fun l => l[0]?) hl
        simpa using this
      simpa using this
    have e : ∀ k', execDr cf (compOpsWith bars P nt ops.toList (compOp P) n (o :: l)) t h k' =
      drK ⟨compG nt ops.toList o.guard, dOf nt o.dst, bars n, compOp P o.op⟩ cf (execDr cf (compOpsWith bars P nt ops.toList (compOp P) (n + 1) l)) t h k' := fun _ => rfl
    rw [e] at hk
    obtain ⟨t1, h1, a1, a2⟩ := dr_step hcf hn hk
    rw [a1] at hk
    have hl' : ops.toList.drop (n + 1) = l := by rw [← List.drop_drop, hl]; rfl
    obtain ⟨Ts, Hs, b1, b2, b3, b4⟩ := ih (n + 1) hl' t1 h1 k hk
    refine ⟨fun i => if i = n then t else Ts i, fun i => if i = n then h else Hs i, by simp, by simp, fun k' => ?_, fun i oi hni hi => ?_⟩
    · rw [e, a1, b3]
      have e1 : n + (o :: l).length = n + 1 + l.length := by simp; omega
      rw [e1]
      simp only [show ¬ n + 1 + l.length = n by omega, if_false]
    · by_cases hin : i = n
      · subst hin
        rw [hn] at hi
        cases hi
        simp only [if_true, show ¬ i + 1 = i by omega, if_false, b1, b2]
        exact a2
      · simp only [hin, if_false, show ¬ i + 1 = n by omega]
        exact b4 i oi (by omega) hi
section
variable {P : Program} {nt : Nat} {ops : Array Oper} {Ts : Nat → F} {Hs : Nat → H}
theorem Emb.below_le (ρ : Emb) (n : B) : (ρ.below n).le ρ := fun _ _ _ h => (Emb.below_some h).1
theorem Emb.below_mono {ρ ρ' : Emb} (h : ρ.le ρ') {m n : B} (hn : B.val m ≤ B.val n) : (ρ.below m).le (ρ'.below n) :=
  fun _ _ _ hL => Emb.below_of (h _ _ _ (Emb.below_some hL).1) (Nat.lt_of_lt_of_le (Emb.below_some hL).2 hn)
def Emb.or (ρ ρ' : Emb) : Emb := fun id g => (ρ id g).or (ρ' id g)
structure Inv (P : Program) (nt : Nat) (ops : Array Oper) (Ts : Nat → F) (Hs : Nat → H) (ρ0 : Emb) (w0 : World) (listed : Array Bool) (a : Act) (w : World) (ρ : Emb) (s M : Nat) : Prop where
  size : a.tmps.size = nt
  defers : a.defers = DefL.d
  ext : Ext (Hs 0).floor ρ0 ρ
  slots : ∀ q, q < 512 → ∃ m, m ≤ ops.size ∧ (m = 0 ∨ ∃ j o, m = j + 1 ∧ ops[j]? = some o ∧ o.dst = some q) ∧ (∀ (j : Nat) o, ops[j]? = some o → o.dst = some q → (j < m ↔ InL listed j)) ∧ VRel (ρ.below (Hs m).next) (sGet (slOf q) (Ts m)) (a.tmps.getD q undef)
  sM : s ≤ M
  MN : M ≤ ops.size
  lo : ∀ (j : Nat) o, ops[j]? = some o → still P o.op = false → j < s → InL listed j
  hi : ∀ (j : Nat) o, ops[j]? = some o → still P o.op = false → M ≤ j → ¬ InL listed j
  nobar : ∀ j, s ≤ j → j < M → barAt P ops.toList (befs ops.toList []) j = false
  atM : M = ops.size ∨ barAt P ops.toList (befs ops.toList []) M = true
  dom : ∀ id g L, ρ id g = some L → B.val id < B.val (Hs M).next
  domD : ∀ id g L, ρ id g = some L → ∀ (j : Nat) o, ops[j]? = some o → ¬ InL listed j → ¬ (B.val (Hs j).next ≤ B.val id ∧ B.val id < B.val (Hs (j + 1)).next)
  heap : ∀ m, s ≤ m → m ≤ M → HRel (ρ.below (Hs m).next) (Hs m) w w0
variable (hd : drawsOk ops.toList = true) (hst : ∀ (i : Nat) o, ops[i]? = some o → StepOk P nt ops i o (barAt P ops.toList (befs ops.toList []) i) (Ts i) (Ts (i + 1)) (Hs i) (Hs (i + 1)))
include hd hst
omit hd in
theorem st_next {i : Nat} {o : Oper} (hi : ops[i]? = some o) : B.val (Hs i).next ≤ B.val (Hs (i + 1)).next ∧ (Hs (i + 1)).floor = (Hs i).floor := by
  obtain ⟨v, h2, e1, e2, e3, e4, _⟩ := (hst i o hi).ex
  cases hb : barAt P ops.toList (befs ops.toList []) i with
  | true => rw [hb] at e2 e4; simp only [if_true] at e2 e4; rw [e4]; exact ⟨e3, e2.1⟩
  | false => rw [hb] at e4; simp only [Bool.false_eq_true, if_false] at e4; rw [e4, unFloor_mk]; exact ⟨e3, rfl⟩
omit hd in
theorem st_keep {i : Nat} {o : Oper} (hi : ops[i]? = some o) (hb : barAt P ops.toList (befs ops.toList []) i = false) {id : B} (hid : B.val id < B.val (Hs i).next) : (Hs (i + 1)).heap.get id = (Hs i).heap.get id := by
  obtain ⟨v, h2, e1, e2, e3, e4, _⟩ := (hst i o hi).ex
  rw [hb] at e2 e4
  simp only [Bool.false_eq_true, if_false] at e2 e4
  rw [e4, unFloor_mk]
  have := e2.2 (by rw [reFloor_floor, reFloor_next]; exact Nat.le_refl _) id (by rw [reFloor_floor]; exact hid)
  rw [reFloor_heap] at this
  exact this
omit hd in
theorem nx_mono : ∀ {m n : Nat}, m ≤ n → n ≤ ops.size → B.val (Hs m).next ≤ B.val (Hs n).next := by
  intro m n hmn
  induction n with
  | zero => intro _; have : m = 0 := by omega
            subst this; exact Nat.le_refl _
  | succ n ih =>
    intro hn
    by_cases h : m ≤ n
    · have hi : ops[n]? = some (ops[n]'(by omega)) := by simp
      exact Nat.le_trans (ih h (by omega)) (st_next hst hi).1
    · have : m = n + 1 := by omega
      subst this; exact Nat.le_refl _
omit hd in
theorem fl_same : ∀ {n : Nat}, n ≤ ops.size → (Hs n).floor = (Hs 0).floor := by
  intro n
  induction n with
  | zero => intro _; rfl
  | succ n ih =>
    intro hn
    have hi : ops[n]? = some (ops[n]'(by omega)) := by simp
    exact (st_next hst hi).2.trans (ih (by omega))
omit hd in
theorem seg_keep {s M : Nat} (hMN : M ≤ ops.size) (hnb : ∀ j, s ≤ j → j < M → barAt P ops.toList (befs ops.toList []) j = false) : ∀ {m n : Nat}, s ≤ m → m ≤ n → n ≤ M → ∀ {id : B}, B.val id < B.val (Hs m).next → (Hs n).heap.get id = (Hs m).heap.get id := by
  intro m n hsm hmn
  induction n with
  | zero => intro _ id _; have : m = 0 := by omega
            subst this; rfl
  | succ n ih =>
    intro hn id hid
    by_cases h : m ≤ n
    · have hi : ops[n]? = some (ops[n]'(by omega)) := by simp
      rw [st_keep hst hi (hnb n (by omega) (by omega)) (Nat.lt_of_lt_of_le hid (nx_mono hst h (by omega)))]
      exact ih h (by omega) hid
    · have : m = n + 1 := by omega
      subst this; rfl
omit hd in
theorem slot_same : ∀ {m n q : Nat}, q < 512 → m ≤ n → n ≤ ops.size → (∀ (j : Nat) o, ops[j]? = some o → o.dst = some q → m ≤ j → j < n → False) → sGet (slOf q) (Ts n) = sGet (slOf q) (Ts m) := by
  intro m n q hq hmn
  induction n with
  | zero => intro _ _; have : m = 0 := by omega
            subst this; rfl
  | succ n ih =>
    intro hn hno
    by_cases h : m ≤ n
    · have hi : ops[n]? = some (ops[n]'(by omega)) := by simp
      rw [(hst n _ hi).rest q hq (fun e => hno n _ hi e h (by omega))]
      exact ih h (by omega) fun j o hj hd h1 h2 => hno j o hj hd h1 (by omega)
    · have : m = n + 1 := by omega
      subst this; rfl
/-- of an operation that may come up, whoever writes what it looks at, or writes where it writes, has come up if and only if it stands ahead of it -/
theorem ahead {listed : Array Bool} (hc : Closed ops.toList listed) {i : Nat} {oi : Oper} (hi : ops[i]? = some oi) (hni : ¬ InL listed i) (hr : ∀ e ∈ oi.after.toList, Region.binds .any e = true → InL listed e.on)
    {q : Nat} (hq : q ∈ looks ops.toList oi ∨ oi.dst = some q) {j : Nat} {oj : Oper} (hj : ops[j]? = some oj) (hdj : oj.dst = some q) (hji : j ≠ i) : j < i ↔ InL listed j := by
  have hi' : ops.toList[i]? = some oi := by simpa using hi
  have hj' : ops.toList[j]? = some oj := by simpa using hj
  have hqj : q ∈ dstL oj := by simp [dstL, hdj]
  constructor
  · intro hlt
    rcases pair_ok hd hj' hi' hlt with h | h
    · exact h.inL hc fun o ho e he hb => by rw [hi'] at ho; cases ho; exact hr e he hb
    · simp only [slotsOk, Bool.and_eq_true] at h
      rcases hq with hq | hq
      · exact (apartL_ok h.2.1 hqj hq).elim
      · exact (apartL_ok h.1 hqj (by simp [dstL, hq])).elim
  · intro hin
    refine Decidable.byContradiction fun hlt => ?_
    have hlt' : i < j := by omega
    rcases pair_ok hd hi' hj' hlt' with h | h
    · exact hni (h.inL hc fun o ho e he hb => hc j o ho hin e he hb)
    · simp only [slotsOk, Bool.and_eq_true] at h
      rcases hq with hq | hq
      · exact (apartL_ok h.2.2 hqj hq).elim
      · exact (apartL_ok h.1 (by simp [dstL, hq]) hqj).elim
theorem look_ok {listed : Array Bool} (hc : Closed ops.toList listed) {ρ0 : Emb} {w0 : World} {a : Act} {w : World} {ρ : Emb} {s M : Nat} (I : Inv P nt ops Ts Hs ρ0 w0 listed a w ρ s M)
    {i : Nat} {oi : Oper} (hi : ops[i]? = some oi) (hni : ¬ InL listed i) (hr : ∀ e ∈ oi.after.toList, Region.binds .any e = true → InL listed e.on) : Looks nt ops.toList oi (ρ.below (Hs i).next) (Ts i) a := by
  refine ⟨I.size, fun q hq h5 => ?_⟩
  obtain ⟨m, hm, hm0, hw, hv⟩ := I.slots q h5
  have hiN : i < ops.size := (Array.getElem?_eq_some_iff.1 hi).1
  have key : ∀ (j : Nat) o, ops[j]? = some o → o.dst = some q → j ≠ i → (j < m ↔ j < i) := fun j o hj hdj hji => (hw j o hj hdj).trans (ahead hd hst hc hi hni hr (.inl hq) hj hdj hji).symm
  have self : oi.dst = some q → ¬ i < m := fun hdi h => hni ((hw i oi hi hdi).1 h)
  have hmi : m ≤ i := by
    rcases hm0 with h0 | ⟨j, o, rfl, hj, hdj⟩
    · omega
    · by_cases hji : j = i
      · subst hji
        rw [hi] at hj; cases hj
        exact absurd (Nat.lt_succ_self j) (self hdj)
      · have := (key j o hj hdj hji).1 (Nat.lt_succ_self j)
        omega
  have : sGet (slOf q) (Ts i) = sGet (slOf q) (Ts m) := by
    refine slot_same hst h5 hmi (by omega) fun j o hj hdj h1 h2 => ?_
    have := (key j o hj hdj (by omega)).2 h2
    omega
  rw [this]; exact VRel.up (Emb.below_mono (Emb.le_refl ρ) (nx_mono hst hmi (by omega))) _ _ hv
/-- the slots behind an operation -/
theorem slots_put {listed : Array Bool} (hc : Closed ops.toList listed) {ρ0 : Emb} {w0 : World} {a : Act} {w : World} {ρ : Emb} {s M : Nat} (I : Inv P nt ops Ts Hs ρ0 w0 listed a w ρ s M)
    {i : Nat} {oi : Oper} (hi : ops[i]? = some oi) (hni : ¬ InL listed i) (hr : ∀ e ∈ oi.after.toList, Region.binds .any e = true → InL listed e.on) {listed' : Array Bool} (hl : ∀ j, InL listed' j ↔ (InL listed j ∨ j = i))
    {ρ' : Emb} (hle : ρ.le ρ') {x : Value} (hx : ∀ q, oi.dst = some q → VRel (ρ'.below (Hs (i + 1)).next) (sGet (slOf q) (Ts (i + 1))) x) :
    ∀ q, q < 512 → ∃ m, m ≤ ops.size ∧ (m = 0 ∨ ∃ j o, m = j + 1 ∧ ops[j]? = some o ∧ o.dst = some q) ∧ (∀ (j : Nat) o, ops[j]? = some o → o.dst = some q → (j < m ↔ InL listed' j)) ∧ VRel (ρ'.below (Hs m).next) (sGet (slOf q) (Ts m)) ((a.put oi.dst x).tmps.getD q undef) := by
  intro q h5
  have hiN : i < ops.size := (Array.getElem?_eq_some_iff.1 hi).1
  by_cases hdq : oi.dst = some q
  · refine ⟨i + 1, by omega, .inr ⟨i, oi, rfl, hi, hdq⟩, fun j o hj hdj => ?_, ?_⟩
    · rw [hl]
      by_cases hji : j = i
      · subst hji; constructor
        · intro _; exact .inr rfl
        · intro _; omega
      · have := ahead hd hst hc hi hni hr (.inr hdq) hj hdj hji
        constructor
        · intro h; exact .inl (this.1 (by omega))
        · rintro (h | h)
          · have := this.2 h; omega
          · exact absurd h hji
    · have hqn := ((hst i oi hi).dst q hdq).1
      have : ((a.put oi.dst x).tmps.getD q undef) = x := by rw [hdq]; simp [Act.put, I.size, hqn]
      rw [this]; exact hx q hdq
  · obtain ⟨m, hm, hm0, hw, hv⟩ := I.slots q h5
    refine ⟨m, hm, hm0, fun j o hj hdj => ?_, ?_⟩
    · rw [hl, hw j o hj hdj]
      constructor
      · intro h; exact .inl h
      · rintro (h | h)
        · exact h
        · subst h; rw [hi] at hj; cases hj; exact absurd hdj hdq
    · have : ((a.put oi.dst x).tmps.getD q undef) = a.tmps.getD q undef := by
        cases hdst : oi.dst with
        | none => rfl
        | some d =>
          simp only [Act.put, Array.getD_eq_getD_getElem?, Array.getElem?_setIfInBounds]
          rw [if_neg (fun e => hdq (by rw [hdst, e]))]
      rw [this]; exact VRel.up (Emb.below_mono hle (Nat.le_refl _)) _ _ hv
theorem next_bar (n : Nat) : ∀ k, n + k = ops.size → ∃ M, n ≤ M ∧ M ≤ ops.size ∧ (∀ j, n ≤ j → j < M → barAt P ops.toList (befs ops.toList []) j = false) ∧ (M = ops.size ∨ barAt P ops.toList (befs ops.toList []) M = true) := by
  intro k
  induction k generalizing n with
  | zero => intro h; exact ⟨n, Nat.le_refl _, by omega, fun j h1 h2 => by omega, .inl (by omega)⟩
  | succ k ih =>
    intro h
    cases hb : barAt P ops.toList (befs ops.toList []) n with
    | true => exact ⟨n, Nat.le_refl _, by omega, fun j h1 h2 => by omega, .inr hb⟩
    | false =>
      obtain ⟨M, m1, m2, m3, m4⟩ := ih (n + 1) (by omega)
      exact ⟨M, by omega, m2, fun j h1 h2 => by
        by_cases hj : j = n
        · rw [hj]; exact hb
        · exact m3 j (by omega) h2, m4⟩
/-- WHICHEVER OPERATION COMES UP, what is known stays known. -/
theorem step_any {listed : Array Bool} (hc : Closed ops.toList listed) {ρ0 : Emb} {w0 : World} {a : Act} {w : World} {ρ : Emb} {s M : Nat} (I : Inv P nt ops Ts Hs ρ0 w0 listed a w ρ s M)
    {i : Nat} {oi : Oper} (hi : ops[i]? = some oi) (hni : ¬ InL listed i) (hr : ∀ e ∈ oi.after.toList, Region.binds .any e = true → InL listed e.on) {listed' : Array Bool} (hl : ∀ j, InL listed' j ↔ (InL listed j ∨ j = i))
    {K : Act → World → Prop} {Q : Exit → Act → World → Prop} (hK : ∀ a' w' ρ' s' M', Inv P nt ops Ts Hs ρ0 w0 listed' a' w' ρ' s' M' → K a' w') : wpOp P ops Q i K a w := by
  have hi' : ops.toList[i]? = some oi := by simpa using hi
  have hiN : i < ops.size := (Array.getElem?_eq_some_iff.1 hi).1
  have hlook := look_ok hd hst hc I hi hni hr
  have S := hst i oi hi
  obtain ⟨v, h2, e1, e2, e3, e4, e5, e6⟩ := S.ex
  have hdf : ∀ x, (a.put oi.dst x).defers = DefL.d := fun x => by cases oi.dst <;> exact I.defers
  have hsz : ∀ x, (a.put oi.dst x).tmps.size = nt := fun x => by cases oi.dst <;> simp [Act.put, I.size]
  cases hs : still P oi.op with
  | true =>
    refine e6 hs (ρ.below (Hs i).next) a w K Q hlook fun x hx => hK _ w ρ s M ?_
    refine ⟨hsz x, hdf x, I.ext, slots_put hd hst hc I hi hni hr hl (Emb.le_refl ρ) (fun q hq => by rw [e1 q hq, S.calm hs]; exact hx), I.sM, I.MN, fun j o hj h1 h2 => (hl j).2 (.inl (I.lo j o hj h1 h2)), fun j o hj h1 h2 h3 => ?_, I.nobar, I.atM, I.dom,
      fun id g L hL j o hj hnj => I.domD id g L hL j o hj fun h => hnj ((hl j).2 (.inl h)), I.heap⟩
    rcases (hl j).1 h3 with h3 | h3
    · exact I.hi j o hj h1 h2 h3
    · subst h3; rw [hi] at hj; cases hj; rw [hs] at h1; cases h1
  | false =>
    have hsi : s ≤ i := Nat.le_of_not_lt fun h => hni (I.lo i oi hi hs h)
    cases hb : barAt P ops.toList (befs ops.toList []) i with
    | true =>
      -- a bar: it is the next one
      have hiM : i = M := by
        rcases Nat.lt_trichotomy i M with h | h | h
        · rw [I.nobar i hsi h] at hb; cases hb
        · exact h
        · rcases I.atM with h' | h'
          · omega
          · have hMl : ops[M]? = some (ops[M]'(by omega)) := Array.getElem?_eq_getElem _
            have hloud := bar_loud h' ((Array.getElem?_toList (xs := ops) (i := M)).trans hMl)
            rcases bar_ok (oj := oi) h' hi' hs (by omega) with hR | hR
            · exact absurd (hR.inL hc fun o ho e he hbb => by rw [hi'] at ho; cases ho; exact hr e he hbb) (I.hi M _ hMl hloud (Nat.le_refl _))
            · have := hR.lt (by simp only [drawsOk, Bool.and_eq_true] at hd; exact hd.1); omega
      subst hiM
      rw [hb] at e2 e4 e5
      simp only [if_true] at e2 e4 e5
      have hup : edgesUp 0 ops.toList = true := by simp only [drawsOk, Bool.and_eq_true] at hd; exact hd.1
      have hbelow : ∀ id g L, ρ id g = some L → ρ.below (Hs i).next id g = some L := fun id g L hL => Emb.below_of hL (I.dom _ _ _ hL)
      refine e5 (ρ.below (Hs i).next) a w w0 K Q hlook (I.heap i hsi (Nat.le_refl _)) fun ρ' x w' hE hx hR => ?_
      obtain ⟨M', m1, m2, m3, m4⟩ := next_bar hd hst (i + 1) (ops.size - (i + 1)) (by omega)
      have hle : ρ.le ρ' := fun id g L hL => hE.1 _ _ _ (hbelow _ _ _ hL)
      rw [← e4] at hR
      refine hK _ w' ρ' (i + 1) M' ⟨hsz x, hdf x, I.ext.trans ⟨hle, fun id g L hL => ?_⟩, slots_put hd hst hc I hi hni hr hl hle (fun q hq => by rw [e1 q hq]; exact VRel.up (fun id g L hL => Emb.below_of hL (hR.ids _ _ _ hL)) _ _ hx), m1, m2, fun j o hj h1 h2 => ?_, fun j o hj h1 h2 h3 => ?_, m3, m4,
        fun id g L hL => Nat.lt_of_lt_of_le (hR.ids _ _ _ hL) (nx_mono hst m1 m2), fun id g L hL j o hj hnj hbd => ?_, fun m h1 h2 => ?_⟩
      · rcases hE.2 _ _ _ hL with h | h
        · exact .inl (Emb.below_some h).1
        · right; rw [← fl_same hst (n := i) (by omega)]; exact h
      · rw [hl]
        by_cases hji : j = i
        · exact .inr hji
        · left
          have hj' : ops.toList[j]? = some o := by simpa using hj
          rcases bar_ok hb hj' h1 (fun e => hji e.symm) with hR' | hR'
          · have := hR'.lt hup; omega
          · exact hR'.inL hc fun o' ho e he hbb => by rw [hi'] at ho; cases ho; exact hr e he hbb
      · have hj' : ops.toList[j]? = some o := by simpa using hj
        rcases (hl j).1 h3 with h3 | h3
        · exact I.hi j o hj h1 (by omega) h3
        · omega
      · by_cases hso : still P o.op = true
        · rw [(hst j o hj).calm hso] at hbd; omega
        · have hso' : still P o.op = false := by simpa using hso
          have hji : i < j := by
            refine Nat.lt_of_not_le fun hle' => hnj ((hl j).2 ?_)
            by_cases hji : j = i
            · exact .inr hji
            · left
              have hj' : ops.toList[j]? = some o := by simpa using hj
              rcases bar_ok hb hj' hso' (fun e => hji e.symm) with hR' | hR'
              · have := hR'.lt hup; omega
              · exact hR'.inL hc fun o' ho e he hbb => by rw [hi'] at ho; cases ho; exact hr e he hbb
          have hjN : j < ops.size := (Array.getElem?_eq_some_iff.1 hj).1
          have := nx_mono hst (m := i + 1) (n := j) (by omega) (by omega)
          have := hR.ids _ _ _ hL
          omega
      · have hmN : m ≤ ops.size := by omega
        have hR2 : HRel ρ' (Hs m) w' w0 := hR.later (fun id g L hL => seg_keep hst m2 m3 (Nat.le_refl _) h1 h2 (hR.ids _ _ _ hL)) (nx_mono hst h1 hmN) ((fl_same hst hmN).trans (fl_same hst (by omega)).symm)
        exact hR2.congr fun id g => by
          cases hL : ρ' id g with
          | none => unfold Emb.below; rw [hL]; split <;> rfl
          | some L => exact Emb.below_of hL (hR2.ids _ _ _ hL)
    | false =>
      -- it reads, and lays new blocks
      have hiM : i < M := by
        refine Nat.lt_of_not_le fun hle => ?_
        rcases I.atM with h' | h'
        · omega
        · have hne : i ≠ M := fun e => by rw [e, h'] at hb; cases hb
          have hMN : M < ops.size := by omega
          have hMl : ops[M]? = some (ops[M]'hMN) := Array.getElem?_eq_getElem _
          have hloud := bar_loud h' ((Array.getElem?_toList (xs := ops) (i := M)).trans hMl)
          rcases bar_ok (oj := oi) h' hi' hs (fun e => hne e.symm) with hR | hR
          · exact absurd (hR.inL hc fun o ho e he hbb => by rw [hi'] at ho; cases ho; exact hr e he hbb) (I.hi M _ hMl hloud (Nat.le_refl _))
          · have := hR.lt (by simp only [drawsOk, Bool.and_eq_true] at hd; exact hd.1); omega
      rw [hb] at e2 e4 e5
      simp only [Bool.false_eq_true, if_false] at e2 e4 e5
      have hRi := I.heap i hsi (Nat.le_of_lt hiM)
      have hnxt : (Hs (i + 1)).next = h2.next := by rw [e4, unFloor_mk]
      have hhp : (Hs (i + 1)).heap = h2.heap := by rw [e4, unFloor_mk]
      have hfl2 : h2.floor = (Hs i).next := by rw [e2.1, reFloor_floor]
      refine e5 (ρ.below (Hs i).next) a w w K Q hlook hRi.refloor fun ρ' x w' hE hx hR => ?_
      rw [reFloor_floor] at hE
      have hids : ∀ id g L, ρ' id g = some L → B.val id < B.val (Hs (i + 1)).next := fun id g L hL => by rw [hnxt]; exact hR.ids _ _ _ hL
      have hle : ρ.le (ρ.or ρ') := fun id g L hL => by unfold Emb.or; rw [hL]; rfl
      have hle' : ρ'.le (ρ.or ρ') := fun id g L hL => by
        unfold Emb.or
        cases hr0 : ρ id g with
        | none => exact hL
        | some L0 =>
          rcases hE.2 _ _ _ hL with h | h
          · have := (Emb.below_some h).1
            rw [hr0] at this; exact this
          · exact absurd ⟨h, hids _ _ _ hL⟩ (I.domD id g L0 hr0 i oi hi hni)
      have hnew : ∀ id g L, ρ.or ρ' id g = some L → ρ id g = some L ∨ (ρ id g = none ∧ ρ' id g = some L ∧ B.val (Hs i).next ≤ B.val id) := fun id g L hL => by
        unfold Emb.or at hL
        cases hr0 : ρ id g with
        | some L0 => rw [hr0] at hL; left; exact hL
        | none =>
          rw [hr0] at hL
          have hL' : ρ' id g = some L := hL
          rcases hE.2 _ _ _ hL' with h | h
          · have := (Emb.below_some h).1
            rw [hr0] at this; cases this
          · exact .inr ⟨rfl, hL', h⟩
      have hup : ρ'.le ((ρ.or ρ').below (Hs (i + 1)).next) := fun id g L hL => Emb.below_of (hle' _ _ _ hL) (hids _ _ _ hL)
      have hMN := I.MN
      refine hK _ w' (ρ.or ρ') s M ⟨hsz x, hdf x, I.ext.trans ⟨hle, fun id g L hL => ?_⟩, slots_put hd hst hc I hi hni hr hl hle (fun q hq => by rw [e1 q hq]; exact VRel.up hup _ _ hx), I.sM, I.MN,
        fun j o hj h1 h2 => (hl j).2 (.inl (I.lo j o hj h1 h2)), fun j o hj h1 h2 h3 => ?_, I.nobar, I.atM, fun id g L hL => ?_, fun id g L hL j o hj hnj hbd => ?_, fun m h1 h2 => ?_⟩
      · rcases hnew _ _ _ hL with h | ⟨_, _, h⟩
        · exact .inl h
        · right
          have := hRi.flo
          rw [fl_same hst (n := i) (by omega)] at this
          omega
      · rcases (hl j).1 h3 with h3 | h3
        · exact I.hi j o hj h1 h2 h3
        · omega
      · rcases hnew _ _ _ hL with h | ⟨_, h, _⟩
        · exact I.dom _ _ _ h
        · exact Nat.lt_of_lt_of_le (hids _ _ _ h) (nx_mono hst (by omega) hMN)
      · rcases hnew _ _ _ hL with h | ⟨_, h, hge⟩
        · exact I.domD id g L h j o hj (fun h' => hnj ((hl j).2 (.inl h'))) hbd
        · have hjN : j < ops.size := (Array.getElem?_eq_some_iff.1 hj).1
          have hlt := hids _ _ _ h
          rcases Nat.lt_trichotomy j i with hji | hji | hji
          · have := nx_mono hst (m := j + 1) (n := i) (by omega) (by omega)
            omega
          · exact hnj ((hl j).2 (.inr hji))
          · have := nx_mono hst (m := i + 1) (n := j) (by omega) (by omega)
            omega
      · by_cases hmi : m ≤ i
        · have hg := (I.heap m h1 h2).grow (w' := w') hR.old hR.siz hR.tp hR.os hR.out
          refine hg.congr fun id g => ?_
          unfold Emb.below
          split
          · rename_i hlt
            unfold Emb.or
            cases hr0 : ρ id g with
            | some L0 => rfl
            | none =>
              cases hr1 : ρ' id g with
              | none => rfl
              | some L =>
                rcases hE.2 _ _ _ hr1 with h | h
                · have := (Emb.below_some h).1
                  rw [hr0] at this; cases this
                · have := nx_mono hst hmi (by omega)
                  omega
          · rfl
        · have hmN : m ≤ ops.size := by omega
          refine HRel.merge (I.heap m h1 h2) hR (Emb.below_mono hle (Nat.le_refl _)) (fun id g L hL => Emb.below_of (hle' _ _ _ hL) (Nat.lt_of_lt_of_le (hids _ _ _ hL) (nx_mono hst (by omega) hmN))) fun id g L hL => ?_
          obtain ⟨hL1, hL2⟩ := Emb.below_some hL
          rcases hnew _ _ _ hL1 with h | ⟨_, h, hge⟩
          · exact .inl (Emb.below_of h hL2)
          · refine .inr ⟨h, by rw [hfl2]; exact hge, hL2, ?_⟩
            rw [← hhp]
            exact seg_keep hst hMN I.nobar (by omega) (by omega) h2 (hids _ _ _ h)
theorem done_any {listed : Array Bool} {ρ0 : Emb} {w0 : World} {a : Act} {w : World} {ρ : Emb} {s M : Nat} (I : Inv P nt ops Ts Hs ρ0 w0 listed a w ρ s M) (hall : ∀ i, i < ops.size → InL listed i) :
    Ext (Hs 0).floor ρ0 ρ ∧ ARel ρ nt (Ts ops.size) a ∧ HRel ρ (Hs ops.size) w w0 := by
  have hM : M = ops.size := by
    rcases I.atM with h | h
    · exact h
    · by_cases hMN : M < ops.size
      · have hMl : ops[M]? = some (ops[M]'hMN) := Array.getElem?_eq_getElem _
        have hloud := bar_loud h ((Array.getElem?_toList (xs := ops) (i := M)).trans hMl)
        exact absurd (hall M hMN) (I.hi M _ hMl hloud (Nat.le_refl _))
      · have := I.MN; omega
  subst hM
  refine ⟨I.ext, ⟨I.defers, I.size, fun q h5 => ?_⟩, (I.heap _ I.sM (Nat.le_refl _)).congr fun id g => ?_⟩
  · obtain ⟨m, hm, hm0, hw, hv⟩ := I.slots q h5
    have : sGet (slOf q) (Ts ops.size) = sGet (slOf q) (Ts m) := slot_same hst h5 hm (Nat.le_refl _) fun j o hj hdj h1 h2 => by
      have := (hw j o hj hdj).2 (hall j h2)
      omega
    rw [this]; exact VRel.up (Emb.below_le _ _) _ _ hv
  · cases hr0 : ρ id g with
    | none => unfold Emb.below; rw [hr0]; split <;> rfl
    | some L => exact (Emb.below_of hr0 (I.dom _ _ _ hr0)).symm
def left (n : Nat) (listed : Array Bool) : Nat := ((List.range n).filter fun i => !listed.getD i false).length
omit hd hst in
theorem filter_less {α : Type} (p p' : α → Bool) : ∀ (l : List α), (∀ x ∈ l, p' x = true → p x = true) → (∃ x ∈ l, p x = true ∧ p' x = false) → (l.filter p').length < (l.filter p).length
  | [], _, h => by obtain ⟨x, hx, _⟩ := h; cases hx
  | y :: l, h1, h2 => by
    have hle : (l.filter p').length ≤ (l.filter p).length := by
      have hsub : ∀ (l : List α), (∀ x ∈ l, p' x = true → p x = true) → (l.filter p').length ≤ (l.filter p).length := by
        intro l
        induction l with
        | nil => intro _; exact Nat.le_refl _
        | cons z l ih =>
          intro h
          have := ih fun x hx => h x (by simp [hx])
          rw [List.filter_cons, List.filter_cons]
          cases hp' : p' z with
          | true => rw [h z (by simp) hp']; simp; exact this
          | false => cases p z <;> simp <;> omega
      exact hsub l fun x hx => h1 x (by simp [hx])
    rw [List.filter_cons, List.filter_cons]
    obtain ⟨x, hx, hp, hp'⟩ := h2
    rcases List.mem_cons.1 hx with rfl | hx
    · rw [hp, hp']; simp; omega
    · have ih := filter_less p p' l (fun x hx => h1 x (by simp [hx])) ⟨x, hx, hp, hp'⟩
      cases hq' : p' y with
      | true => rw [h1 y (by simp) hq']; simp; exact ih
      | false => cases p y <;> simp <;> omega
theorem any_ok {ρ0 : Emb} {w0 : World} {Q : Exit → Act → World → Prop} (hQ : ∀ ρ a w, Ext (Hs 0).floor ρ0 ρ → ARel ρ nt (Ts ops.size) a → HRel ρ (Hs ops.size) w w0 → Q .normal a w) :
    ∀ (fuel : Nat) (listed : Array Bool) (a : Act) (w : World) (ρ : Emb) (s M : Nat), listed.size = ops.size → left ops.size listed ≤ fuel → Closed ops.toList listed → Inv P nt ops Ts Hs ρ0 w0 listed a w ρ s M →
      wpAny P .any ops Q fuel listed a w := by
  have hup : edgesUp 0 ops.toList = true := by simp only [drawsOk, Bool.and_eq_true] at hd; exact hd.1
  intro fuel
  induction fuel with
  | zero =>
    intro listed a w ρ s M hsz hlf hc I
    have hall : ∀ i, i < ops.size → InL listed i := by
      intro i hi
      have h0 : (List.range ops.size).filter (fun i => !listed.getD i false) = [] := List.eq_nil_of_length_eq_zero (by unfold left at hlf; omega)
      have := List.filter_eq_nil_iff.1 h0 i (List.mem_range.2 hi)
      unfold InL
      simpa using this
    obtain ⟨h1, h2, h3⟩ := done_any hd hst I hall
    refine ⟨?_, hQ ρ a w h1 h2 h3⟩
    rw [List.eq_nil_iff_forall_not_mem]
    intro j hj
    obtain ⟨hj1, o, hj2, _⟩ := mem_ready.1 hj
    have hjN : j < ops.size := (Array.getElem?_eq_some_iff.1 hj2).1
    have := hall j hjN
    unfold InL at this
    have hjl : j < listed.size := by omega
    simp [hjl] at this hj1
    rw [this] at hj1; cases hj1
  | succ fuel ih =>
    intro listed a w ρ s M hsz hlf hc I
    constructor
    · intro hready
      by_cases hall : ∀ i, i < ops.size → InL listed i
      · obtain ⟨h1, h2, h3⟩ := done_any hd hst I hall
        exact hQ ρ a w h1 h2 h3
      · -- the least that has not come up may come up
        exfalso
        have hex : ∃ i, i < ops.size ∧ ¬ InL listed i := by
          refine Classical.byContradiction fun h => hall fun i hi => Classical.byContradiction fun h' => h ⟨i, hi, h'⟩
        have hleast : ∃ i, (i < ops.size ∧ ¬ InL listed i) ∧ ∀ j, j < i → ¬ (j < ops.size ∧ ¬ InL listed j) := by
          obtain ⟨i, hi⟩ := hex
          induction i using Nat.strongRecOn with
          | _ i ihh =>
            by_cases h : ∃ j, j < i ∧ (j < ops.size ∧ ¬ InL listed j)
            · obtain ⟨j, hj, hj'⟩ := h
              exact ihh j hj hj'
            · exact ⟨i, hi, fun j hj h' => h ⟨j, hj, h'⟩⟩
        obtain ⟨i, ⟨hi1, hi2⟩, hi3⟩ := hleast
        have hio : ops[i]? = some (ops[i]'hi1) := Array.getElem?_eq_getElem _
        have : i ∈ Region.ready .any ops listed := by
          rw [mem_ready]
          refine ⟨?_, _, hio, fun e he hb => ?_⟩
          · have hil : i < listed.size := by omega
            unfold InL at hi2
            simp [hil] at hi2 ⊢
            exact hi2
          · have hlt := edgesUp_ok ops.toList 0 hup i _ ((Array.getElem?_toList (xs := ops) (i := i)).trans hio) e (by simpa using he) hb
            have := Classical.byContradiction fun h => hi3 e.on (by omega) ⟨by omega, h⟩
            exact this
        rw [hready] at this; cases this
    · intro i hi
      obtain ⟨hi1, o, hi2, hi3⟩ := mem_ready.1 hi
      have hiN : i < ops.size := (Array.getElem?_eq_some_iff.1 hi2).1
      have hil : i < listed.size := by omega
      have hni : ¬ InL listed i := by
        unfold InL
        simp [hil] at hi1 ⊢
        exact hi1
      have hr : ∀ e ∈ o.after.toList, Region.binds .any e = true → InL listed e.on := fun e he hb => hi3 e (by simpa using he) hb
      have hl : ∀ j, InL (listed.setIfInBounds i true) j ↔ (InL listed j ∨ j = i) := by
        intro j
        unfold InL
        rw [Array.getD_eq_getD_getElem?, Array.getD_eq_getD_getElem?, Array.getElem?_setIfInBounds]
        by_cases hji : i = j
        · subst hji; simp [hil]
        · rw [if_neg hji]
          constructor
          · intro h; exact .inl h
          · rintro (h | h)
            · exact h
            · exact absurd h.symm hji
      refine step_any hd hst hc I hi2 hni hr hl fun a' w' ρ' s' M' I' => ih _ a' w' ρ' s' M' (by simpa using hsz) ?_ ?_ I'
      · have : left ops.size (listed.setIfInBounds i true) < left ops.size listed := by
          unfold left
          refine filter_less _ _ _ (fun x _ hx => ?_) ⟨i, List.mem_range.2 hiN, ?_, ?_⟩
          · have := hl x
            unfold InL at this
            cases hx1 : listed.getD x false with
            | false => rfl
            | true => rw [this.2 (.inl hx1)] at hx; exact hx
          · unfold InL at hni
            simpa using hni
          · have := (hl i).2 (.inr rfl)
            unfold InL at this
            rw [this]; rfl
        omega
      · intro j oj hj hjin e he hb
        rw [hl] at hjin ⊢
        left
        rcases hjin with h | h
        · exact hc j oj hj h e he hb
        · subst h
          have : ops.toList[j]? = some o := (Array.getElem?_toList (xs := ops) (i := j)).trans hi2
          rw [hj] at this; cases this
          exact hr e he hb
theorem keep_all : ∀ {n : Nat}, n ≤ ops.size → KeepF (Hs 0) (Hs n) := by
  intro n
  induction n with
  | zero => intro _; exact KeepF.refl _
  | succ n ih =>
    intro hn
    have hi : ops[n]? = some (ops[n]'(by omega)) := Array.getElem?_eq_getElem _
    refine KeepF.trans (ih (by omega)) (nx_mono hst (Nat.zero_le _) (by omega)) ?_
    obtain ⟨v, h2, e1, e2, e3, e4, _⟩ := (hst n _ hi).ex
    cases hb : barAt P ops.toList (befs ops.toList []) n with
    | true => rw [hb] at e2 e4; simp only [if_true] at e2 e4; rw [e4]; exact e2
    | false => exact ⟨(st_next hst hi).2, fun hf id hid => st_keep hst hi hb (Nat.lt_of_lt_of_le hid hf)⟩
end
/-- A REGION THAT DRAWS ITS ORDER: what the evaluator makes of it, in the text's order, is what the model makes of it, in any. -/
theorem draws_ok {P : Program} (hm : P.follows .mixedOrders = true) {cf : CallF} (hcf : CfOk P cf) {nt : Nat} {ops : Array Oper} (hd : drawsOk ops.toList = true) {t : F} {h : H} {k : F → H → Bool}
    (hk : execDr cf (compOpsWith (barAt P ops.toList (befs ops.toList [])) P nt ops.toList (compOp P) 0 ops.toList) t h k = true) :
    ∃ t' h', (∀ k', execDr cf (compOpsWith (barAt P ops.toList (befs ops.toList [])) P nt ops.toList (compOp P) 0 ops.toList) t h k' = k' t' h') ∧ KeepF h h' ∧ B.val h.next ≤ B.val h'.next ∧
      ∀ ρ a w w0 (id : Nat) (Q : Exit → Act → World → Prop), ARel ρ nt t a → HRel ρ h w w0 → (∀ ρ' a' w', Ext h.floor ρ ρ' → ARel ρ' nt t' a' → HRel ρ' h' w' w0 → Q .normal a' w') → (Code.region id ops true).wp P Q a w := by
  obtain ⟨Ts, Hs, b1, b2, b3, b4⟩ := dr_trace hcf _ ops.toList 0 (by simp) t h k hk
  have hst : ∀ (i : Nat) o, ops[i]? = some o → StepOk P nt ops i o (barAt P ops.toList (befs ops.toList []) i) (Ts i) (Ts (i + 1)) (Hs i) (Hs (i + 1)) := fun i o hi => b4 i o (Nat.zero_le _) hi
  have hlen : 0 + ops.toList.length = ops.size := by simp
  rw [hlen] at b3
  refine ⟨Ts ops.size, Hs ops.size, b3, by rw [← b2]; exact keep_all hd hst (Nat.le_refl _), by rw [← b2]; exact nx_mono hst (Nat.zero_le _) (Nat.le_refl _), fun ρ a w w0 id Q A R hQ => ?_⟩
  refine wp_region_any hm ?_
  have hR1 : HRel ρ h { w with drawn := w.drawn + 1 } w0 := R.dr _
  obtain ⟨M, m1, m2, m3, m4⟩ := next_bar (P := P) (nt := nt) (Ts := Ts) (Hs := Hs) hd hst 0 ops.size (by omega)
  have hno : ∀ j, ¬ InL (Array.replicate ops.size false) j := by
    intro j; unfold InL
    by_cases hj : j < ops.size <;> simp [hj]
  refine any_ok hd hst (ρ0 := ρ) (w0 := w0) (fun ρ' a' w' h1 h2 h3 => hQ ρ' a' w' (by rw [← b2]; exact h1) h2 h3) ops.size _ a _ ρ 0 M (by simp) (by unfold left; exact Nat.le_trans (List.length_filter_le _ _) (by simp)) (fun j o hj hin => absurd hin (hno j)) ?_
  refine ⟨A.size, A.defers, Ext.refl _ _, fun q h5 => ⟨0, Nat.zero_le _, .inl rfl, fun j o hj hdj => ⟨fun h => by omega, fun h => absurd h (hno j)⟩, ?_⟩, Nat.zero_le _, m2, fun j o hj h1 h2 => by omega, fun j o hj h1 h2 => hno j, m3, m4,
    fun i g L hL => ?_, fun i g L hL j o hj hnj hbd => ?_, fun m h1 h2 => ?_⟩
  · rw [b1, b2]
    exact VRel.up (fun i g L hL => Emb.below_of hL (R.ids _ _ _ hL)) _ _ (A.slot q h5)
  · have := R.ids _ _ _ hL
    rw [← b2] at this
    exact Nat.lt_of_lt_of_le this (nx_mono hst (Nat.zero_le _) m2)
  · have := R.ids _ _ _ hL
    rw [← b2] at this
    have hjN : j < ops.size := (Array.getElem?_eq_some_iff.1 hj).1
    have := nx_mono hst (m := 0) (n := j) (Nat.zero_le _) (by omega)
    omega
  · have hmN : m ≤ ops.size := by omega
    rw [← b2] at hR1
    have hR2 : HRel ρ (Hs m) { w with drawn := w.drawn + 1 } w0 := hR1.later (fun i g L hL => seg_keep hst m2 m3 (Nat.le_refl _) h1 h2 (hR1.ids _ _ _ hL)) (nx_mono hst h1 hmN) (fl_same hst hmN)
    exact hR2.congr fun i g => by
      cases hL : ρ i g with
      | none => unfold Emb.below; rw [hL]; split <;> rfl
      | some L => exact Emb.below_of hL (hR2.ids _ _ _ hL)
end Go.Ev

set_option linter.all false
namespace Go.Ev
open Go
variable [DefL]
section
variable {P : Program} {nt : Nat} {ops : Array Oper} {Ts : Nat → F}
theorem ahead1 (hd : drawsOk ops.toList = true) {listed : Array Bool} (hc : Closed ops.toList listed) {i : Nat} {oi : Oper} (hi : ops[i]? = some oi) (hni : ¬ InL listed i) (hr : ∀ e ∈ oi.after.toList, Region.binds .any e = true → InL listed e.on)
    {q : Nat} (hq : q ∈ looks ops.toList oi ∨ oi.dst = some q) {j : Nat} {oj : Oper} (hj : ops[j]? = some oj) (hdj : oj.dst = some q) (hji : j ≠ i) : j < i ↔ InL listed j := by
  have hi' : ops.toList[i]? = some oi := by simpa using hi
  have hj' : ops.toList[j]? = some oj := by simpa using hj
  have hqj : q ∈ dstL oj := by simp [dstL, hdj]
  constructor
  · intro hlt
    rcases pair_ok hd hj' hi' hlt with h | h
    · exact h.inL hc fun o ho e he hb => by rw [hi'] at ho; cases ho; exact hr e he hb
    · simp only [slotsOk, Bool.and_eq_true] at h
      rcases hq with hq | hq
      · exact (apartL_ok h.2.1 hqj hq).elim
      · exact (apartL_ok h.1 hqj (by simp [dstL, hq])).elim
  · intro hin
    refine Decidable.byContradiction fun hlt => ?_
    have hlt' : i < j := by omega
    rcases pair_ok hd hi' hj' hlt' with h | h
    · exact hni (h.inL hc fun o ho e he hb => hc j o ho hin e he hb)
    · simp only [slotsOk, Bool.and_eq_true] at h
      rcases hq with hq | hq
      · exact (apartL_ok h.2.2 hqj hq).elim
      · exact (apartL_ok h.1 (by simp [dstL, hq]) hqj).elim
/-- what each operation leaves of the slots -/
def Frm (nt : Nat) (ops : Array Oper) (Ts : Nat → F) : Prop := ∀ (i : Nat) o, ops[i]? = some o → (∀ q, o.dst = some q → q < nt ∧ q < 512) ∧ ∀ q, q < 512 → o.dst ≠ some q → sGet (slOf q) (Ts (i + 1)) = sGet (slOf q) (Ts i)
theorem slot_same1 (hs : Frm nt ops Ts) : ∀ {m n q : Nat}, q < 512 → m ≤ n → n ≤ ops.size → (∀ (j : Nat) o, ops[j]? = some o → o.dst = some q → m ≤ j → j < n → False) → sGet (slOf q) (Ts n) = sGet (slOf q) (Ts m) := by
  intro m n q hq hmn
  induction hmn with
  | refl => intro _ _; rfl
  | @step k hk ih =>
    intro hN hno
    have ho : ops[k]? = some (ops[k]'(by omega)) := Array.getElem?_eq_getElem _
    rw [(hs k _ ho).2 q hq fun e => hno k _ ho e hk (Nat.lt_succ_self _)]
    exact ih (by omega) fun j o hj hd h1 h2 => hno j o hj hd h1 (by omega)
def Slots1 (ops : Array Oper) (Ts : Nat → F) (listed : Array Bool) (a : Act) (ρ : Emb) : Prop := ∀ q, q < 512 → ∃ m, m ≤ ops.size ∧ (m = 0 ∨ ∃ j o, m = j + 1 ∧ ops[j]? = some o ∧ o.dst = some q) ∧ (∀ (j : Nat) o, ops[j]? = some o → o.dst = some q → (j < m ↔ InL listed j)) ∧ VRel ρ (sGet (slOf q) (Ts m)) (a.tmps.getD q undef)
theorem look1 (hd : drawsOk ops.toList = true) (hs : Frm nt ops Ts) {listed : Array Bool} (hc : Closed ops.toList listed) {a : Act} {ρ : Emb} (hsz : a.tmps.size = nt) (I : Slots1 ops Ts listed a ρ)
    {i : Nat} {oi : Oper} (hi : ops[i]? = some oi) (hni : ¬ InL listed i) (hr : ∀ e ∈ oi.after.toList, Region.binds .any e = true → InL listed e.on) : Looks nt ops.toList oi ρ (Ts i) a := by
  refine ⟨hsz, fun q hq h5 => ?_⟩
  obtain ⟨m, hm, hm0, hw, hv⟩ := I q h5
  have hiN : i < ops.size := (Array.getElem?_eq_some_iff.1 hi).1
  have key : ∀ (j : Nat) o, ops[j]? = some o → o.dst = some q → j ≠ i → (j < m ↔ j < i) := fun j o hj hdj hji => (hw j o hj hdj).trans (ahead1 hd hc hi hni hr (.inl hq) hj hdj hji).symm
  have self : oi.dst = some q → ¬ i < m := fun hdi h => hni ((hw i oi hi hdi).1 h)
  have hmi : m ≤ i := by
    rcases hm0 with h0 | ⟨j, o, rfl, hj, hdj⟩
    · omega
    · by_cases hji : j = i
      · subst hji
        rw [hi] at hj; cases hj
        exact absurd (Nat.lt_succ_self j) (self hdj)
      · have := (key j o hj hdj hji).1 (Nat.lt_succ_self j)
        omega
  have : sGet (slOf q) (Ts i) = sGet (slOf q) (Ts m) := by
    refine slot_same1 hs h5 hmi (by omega) fun j o hj hdj h1 h2 => ?_
    have := (key j o hj hdj (by omega)).2 h2
    omega
  rw [this]; exact hv
theorem put1 (hd : drawsOk ops.toList = true) (hs : Frm nt ops Ts) {listed : Array Bool} (hc : Closed ops.toList listed) {a : Act} {ρ : Emb} (hsz : a.tmps.size = nt) (I : Slots1 ops Ts listed a ρ)
    {i : Nat} {oi : Oper} (hi : ops[i]? = some oi) (hni : ¬ InL listed i) (hr : ∀ e ∈ oi.after.toList, Region.binds .any e = true → InL listed e.on) {listed' : Array Bool} (hl : ∀ j, InL listed' j ↔ (InL listed j ∨ j = i))
    {ρ' : Emb} (hle : ρ.le ρ') {x : Value} (hx : ∀ q, oi.dst = some q → VRel ρ' (sGet (slOf q) (Ts (i + 1))) x) : Slots1 ops Ts listed' (a.put oi.dst x) ρ' := by
  intro q h5
  have hiN : i < ops.size := (Array.getElem?_eq_some_iff.1 hi).1
  by_cases hdq : oi.dst = some q
  · refine ⟨i + 1, by omega, .inr ⟨i, oi, rfl, hi, hdq⟩, fun j o hj hdj => ?_, ?_⟩
    · rw [hl]
      by_cases hji : j = i
      · subst hji; constructor
        · intro _; exact .inr rfl
        · intro _; omega
      · have := ahead1 hd hc hi hni hr (.inr hdq) hj hdj hji
        constructor
        · intro h; exact .inl (this.1 (by omega))
        · rintro (h | h)
          · have := this.2 h; omega
          · exact absurd h hji
    · have hqn := ((hs i oi hi).1 q hdq).1
      have : ((a.put oi.dst x).tmps.getD q undef) = x := by rw [hdq]; simp [Act.put, hsz, hqn]
      rw [this]; exact hx q hdq
  · obtain ⟨m, hm, hm0, hw, hv⟩ := I q h5
    refine ⟨m, hm, hm0, fun j o hj hdj => ?_, ?_⟩
    · rw [hl, hw j o hj hdj]
      constructor
      · intro h; exact .inl h
      · rintro (h | h)
        · exact h
        · subst h; rw [hi] at hj; cases hj; exact absurd hdj hdq
    · have : ((a.put oi.dst x).tmps.getD q undef) = a.tmps.getD q undef := by
        cases hdst : oi.dst with
        | none => rfl
        | some d =>
          simp only [Act.put, Array.getD_eq_getD_getElem?, Array.getElem?_setIfInBounds]
          rw [if_neg (fun e => hdq (by rw [hdst, e]))]
      rw [this]; exact VRel.up hle _ _ hv
/-- those of 'lo' stand in one row; all others leave memory alone, and make the same at each heap at which they may be done -/
theorem any2 (hd : drawsOk ops.toList = true) {Hs : Nat → H} {lo : Nat → Prop} (hs : Frm nt ops Ts) (hch : ∀ i j, lo i → lo j → i < j → j < ops.size → Reach ops.toList j i)
    (hlo : ∀ (i : Nat) o, lo i → ops[i]? = some o → StepOk P nt ops i o true (Ts i) (Ts (i + 1)) (Hs i) (Hs (i + 1))) (hsm : ∀ i, i < ops.size → ¬ lo i → Hs (i + 1) = Hs i)
    (hqt : ∀ (i : Nat) o, ¬ lo i → ops[i]? = some o → (∃ g g', StepOk P nt ops i o true (Ts i) (Ts (i + 1)) g g') ∧ (still P o.op = true ∨ ∀ c, c ≤ ops.size → (∀ k, lo k → Reach ops.toList i k → k < c) → (∀ k, lo k → k < c → ¬ Reach ops.toList k i) → StepOk P nt ops i o true (Ts i) (Ts (i + 1)) (Hs c) (Hs c)))
    {ρ0 : Emb} {w0 : World} {Q : Exit → Act → World → Prop} (hQ : ∀ ρ a w, Ext (Hs 0).floor ρ0 ρ → ARel ρ nt (Ts ops.size) a → HRel ρ (Hs ops.size) w w0 → Q .normal a w) :
    ∀ (fuel : Nat) (listed : Array Bool) (a : Act) (w : World) (ρ : Emb), listed.size = ops.size → left ops.size listed ≤ fuel → Closed ops.toList listed → a.tmps.size = nt → a.defers = DefL.d → Ext (Hs 0).floor ρ0 ρ → Slots1 ops Ts listed a ρ → (∃ c, c ≤ ops.size ∧ (∀ k, k < ops.size → lo k → (InL listed k ↔ k < c)) ∧ HRel ρ (Hs c) w w0) →
      wpAny P .any ops Q fuel listed a w := by
  have hup : edgesUp 0 ops.toList = true := by simp only [drawsOk, Bool.and_eq_true] at hd; exact hd.1
  have same : ∀ d c, c ≤ d → d ≤ ops.size → (∀ k, c ≤ k → k < d → ¬ lo k) → Hs d = Hs c := by
    intro d
    induction d with
    | zero => intro c h1 _ _; rw [Nat.le_zero.1 h1]
    | succ d ih =>
      intro c h1 h2 h3
      by_cases e : c = d + 1
      · rw [e]
      · rw [hsm d (by omega) (h3 d (by omega) (by omega))]
        exact ih c (by omega) (by omega) fun k k1 k2 => h3 k k1 (by omega)
  have flo : ∀ c, c ≤ ops.size → (Hs c).floor = (Hs 0).floor := by
    intro c
    induction c with
    | zero => intro _; rfl
    | succ c ih =>
      intro hc
      rw [← ih (by omega)]
      by_cases hl : lo c
      · obtain ⟨v, g, _, e2, _, e4, _⟩ := (hlo c _ hl (Array.getElem?_eq_getElem (show c < ops.size by omega))).ex
        simp only [if_true] at e2 e4
        rw [e4]; exact e2.1
      · rw [hsm c (by omega) hl]
  have done : ∀ {listed : Array Bool} {a : Act} {w : World} {ρ : Emb}, (∀ i, i < ops.size → InL listed i) → a.tmps.size = nt → a.defers = DefL.d → Ext (Hs 0).floor ρ0 ρ → Slots1 ops Ts listed a ρ → (∃ c, c ≤ ops.size ∧ (∀ k, k < ops.size → lo k → (InL listed k ↔ k < c)) ∧ HRel ρ (Hs c) w w0) → Q .normal a w := fun {listed a w ρ} hall hsz hdf hE I hp => by
    obtain ⟨c, c1, c2, c3⟩ := hp
    refine hQ ρ a w hE ⟨hdf, hsz, fun q h5 => ?_⟩ (by rw [same ops.size c c1 (Nat.le_refl _) fun k k1 k2 hl => by have := (c2 k k2 hl).1 (hall k k2); omega]; exact c3)
    obtain ⟨m, hm, hm0, hw, hv⟩ := I q h5
    rw [slot_same1 hs h5 hm (Nat.le_refl _) fun j o hj hdj h1 h2 => by
      have := (hw j o hj hdj).2 (hall j h2)
      omega]
    exact hv
  intro fuel
  induction fuel with
  | zero =>
    intro listed a w ρ hsz hlf hc ha hdf hE I hp
    have hall : ∀ i, i < ops.size → InL listed i := by
      intro i hi
      have h0 : (List.range ops.size).filter (fun i => !listed.getD i false) = [] := List.eq_nil_of_length_eq_zero (by unfold left at hlf; omega)
      have := List.filter_eq_nil_iff.1 h0 i (List.mem_range.2 hi)
      unfold InL
      simpa using this
    refine ⟨?_, done hall ha hdf hE I hp⟩
    rw [List.eq_nil_iff_forall_not_mem]
    intro j hj
    obtain ⟨hj1, o, hj2, _⟩ := mem_ready.1 hj
    have hjN : j < ops.size := (Array.getElem?_eq_some_iff.1 hj2).1
    have := hall j hjN
    unfold InL at this
    have hjl : j < listed.size := by omega
    simp [hjl] at this hj1
    rw [this] at hj1; cases hj1
  | succ fuel ih =>
    intro listed a w ρ hsz hlf hc ha hdf hE I hp
    constructor
    · intro hready
      by_cases hall : ∀ i, i < ops.size → InL listed i
      · exact done hall ha hdf hE I hp
      · exfalso
        have hex : ∃ i, i < ops.size ∧ ¬ InL listed i := by
          refine Classical.byContradiction fun h => hall fun i hi => Classical.byContradiction fun h' => h ⟨i, hi, h'⟩
        have hleast : ∃ i, (i < ops.size ∧ ¬ InL listed i) ∧ ∀ j, j < i → ¬ (j < ops.size ∧ ¬ InL listed j) := by
          obtain ⟨i, hi⟩ := hex
          induction i using Nat.strongRecOn with
          | _ i ihh =>
            by_cases h : ∃ j, j < i ∧ (j < ops.size ∧ ¬ InL listed j)
            · obtain ⟨j, hj, hj'⟩ := h
              exact ihh j hj hj'
            · exact ⟨i, hi, fun j hj h' => h ⟨j, hj, h'⟩⟩
        obtain ⟨i, ⟨hi1, hi2⟩, hi3⟩ := hleast
        have hio : ops[i]? = some (ops[i]'hi1) := Array.getElem?_eq_getElem _
        have : i ∈ Region.ready .any ops listed := by
          rw [mem_ready]
          refine ⟨?_, _, hio, fun e he hb => ?_⟩
          · have hil : i < listed.size := by omega
            unfold InL at hi2
            simp [hil] at hi2 ⊢
            exact hi2
          · have hlt := edgesUp_ok ops.toList 0 hup i _ ((Array.getElem?_toList (xs := ops) (i := i)).trans hio) e (by simpa using he) hb
            have := Classical.byContradiction fun h => hi3 e.on (by omega) ⟨by omega, h⟩
            exact this
        rw [hready] at this; cases this
    · intro i hi
      obtain ⟨hi1, o, hi2, hi3⟩ := mem_ready.1 hi
      have hiN : i < ops.size := (Array.getElem?_eq_some_iff.1 hi2).1
      have hil : i < listed.size := by omega
      have hni : ¬ InL listed i := by
        unfold InL
        simp [hil] at hi1 ⊢
        exact hi1
      have hi2' : ops.toList[i]? = some o := (Array.getElem?_toList (xs := ops) (i := i)).trans hi2
      have hr : ∀ e ∈ o.after.toList, Region.binds .any e = true → InL listed e.on := fun e he hb => hi3 e (by simpa using he) hb
      have hl : ∀ j, InL (listed.setIfInBounds i true) j ↔ (InL listed j ∨ j = i) := by
        intro j
        unfold InL
        rw [Array.getD_eq_getD_getElem?, Array.getD_eq_getD_getElem?, Array.getElem?_setIfInBounds]
        by_cases hji : i = j
        · subst hji; simp [hil]
        · rw [if_neg hji]
          constructor
          · intro h; exact .inl h
          · rintro (h | h)
            · exact h
            · exact absurd h.symm hji
      have hdfx : ∀ x, (a.put o.dst x).defers = DefL.d := fun x => by cases o.dst <;> exact hdf
      have hszx : ∀ x, (a.put o.dst x).tmps.size = nt := fun x => by cases o.dst <;> simp [Act.put, ha]
      have hlook := look1 hd hs hc ha I hi2 hni hr
      have hlf' : left ops.size (listed.setIfInBounds i true) ≤ fuel := by
        have : left ops.size (listed.setIfInBounds i true) < left ops.size listed := by
          unfold left
          refine filter_less _ _ _ (fun x _ hx => ?_) ⟨i, List.mem_range.2 hiN, ?_, ?_⟩
          · have := hl x
            unfold InL at this
            cases hx1 : listed.getD x false with
            | false => rfl
            | true => rw [this.2 (.inl hx1)] at hx; exact hx
          · unfold InL at hni
            simpa using hni
          · have := (hl i).2 (.inr rfl)
            unfold InL at this
            rw [this]; rfl
        omega
      have hc' : Closed ops.toList (listed.setIfInBounds i true) := by
        intro j oj hj hjin e he hb
        rw [hl] at hjin ⊢
        left
        rcases hjin with h | h
        · exact hc j oj hj h e he hb
        · subst h
          rw [hj] at hi2'; cases hi2'
          exact hr e he hb
      have reach : ∀ j, Reach ops.toList i j → InL listed j := fun j hR => hR.inL hc fun o' ho e he hb => by rw [hi2'] at ho; cases ho; exact hr e he hb
      obtain ⟨c, c1, c2, c3⟩ := hp
      -- the step, whichever it is
      have step : ∀ (g g' : H), StepOk P nt ops i o true (Ts i) (Ts (i + 1)) g g' → g.floor = (Hs 0).floor → HRel ρ g w w0 → (∀ ρ' w', HRel ρ' g' w' w0 → ∃ c, c ≤ ops.size ∧ (∀ k, k < ops.size → lo k → (InL (listed.setIfInBounds i true) k ↔ k < c)) ∧ HRel ρ' (Hs c) w' w0) → wpOp P ops Q i (wpAny P .any ops Q fuel (listed.setIfInBounds i true)) a w := fun g g' S hfl R hAt => by
        obtain ⟨v, g2, e1, e2, e3, e4, e5, e6⟩ := S.ex
        simp only [if_true] at e2 e4 e5
        refine e5 ρ a w w0 _ Q hlook R fun ρ' x w' l1 l2 l3 => ?_
        rw [← e4] at l3
        refine ih _ _ w' ρ' (by simpa using hsz) hlf' hc' (hszx x) (hdfx x) (hE.trans (by rw [← hfl]; exact l1)) (put1 hd hs hc ha I hi2 hni hr hl l1.1 fun q hq => by rw [e1 q hq]; exact l2) (hAt ρ' w' l3)
      by_cases hli : lo i
      · have hci : c ≤ i := Nat.le_of_not_lt fun h => hni ((c2 i hiN hli).2 h)
        have hno : ∀ k, c ≤ k → k < i → ¬ lo k := fun k k1 k2 hk => by
          have := (c2 k (by omega) hk).1 (reach k (hch k i hk hli k2 hiN))
          omega
        have e := same i c hci (by omega) hno
        refine step (Hs i) (Hs (i + 1)) (hlo i o hli hi2) (flo i (by omega)) (by rw [e]; exact c3) fun ρ' w' R => ⟨i + 1, by omega, fun k k1 k2 => ?_, R⟩
        rw [hl, c2 k k1 k2]
        constructor
        · rintro (h | h) <;> omega
        · intro h
          by_cases e2 : k = i
          · exact .inr e2
          · exact .inl (Nat.lt_of_not_le fun h3 => hno k h3 (by omega) k2)
      · have hc2 : ∀ k, k < ops.size → lo k → (InL (listed.setIfInBounds i true) k ↔ k < c) := fun k k1 k2 => by
          rw [hl, c2 k k1 k2]
          exact ⟨fun h => h.resolve_right fun e => hli (e ▸ k2), .inl⟩
        obtain ⟨⟨g, g', S⟩, hh⟩ := hqt i o hli hi2
        rcases hh with hst | hh
        · obtain ⟨v, g2, e1, e2, e3, e4, e5, e6⟩ := S.ex
          exact e6 hst ρ a w _ Q hlook fun x hx => ih _ _ w ρ (by simpa using hsz) hlf' hc' (hszx x) (hdfx x) hE (put1 hd hs hc ha I hi2 hni hr hl (Emb.le_refl ρ) fun q hq => by rw [e1 q hq]; exact hx) ⟨c, c1, hc2, c3⟩
        · refine step (Hs c) (Hs c) (hh c c1 (fun k k1 k2 => ?_) fun k k1 k2 k3 => ?_) (flo c c1) c3 fun ρ' w' R => ⟨c, c1, hc2, R⟩
          · have hkl := reach k k2
            have hkN : k < ops.size := by
              have := k2.lt hup; omega
            exact (c2 k hkN k1).1 hkl
          · have hkl := (c2 k (by omega) k1).2 k2
            exact hni (k3.inL hc fun o' ho e he hb => hc k o' ho hkl e he hb)
/-- such a region, from its beginning on -/
theorem chain_ok (hm : P.follows .mixedOrders = true) (hd : drawsOk ops.toList = true) {Hs : Nat → H} {lo : Nat → Prop} (hs : Frm nt ops Ts) (hch : ∀ i j, lo i → lo j → i < j → j < ops.size → Reach ops.toList j i)
    (hlo : ∀ (i : Nat) o, lo i → ops[i]? = some o → StepOk P nt ops i o true (Ts i) (Ts (i + 1)) (Hs i) (Hs (i + 1))) (hsm : ∀ i, i < ops.size → ¬ lo i → Hs (i + 1) = Hs i)
    (hqt : ∀ (i : Nat) o, ¬ lo i → ops[i]? = some o → (∃ g g', StepOk P nt ops i o true (Ts i) (Ts (i + 1)) g g') ∧ (still P o.op = true ∨ ∀ c, c ≤ ops.size → (∀ k, lo k → Reach ops.toList i k → k < c) → (∀ k, lo k → k < c → ¬ Reach ops.toList k i) → StepOk P nt ops i o true (Ts i) (Ts (i + 1)) (Hs c) (Hs c))) :
    KeepF (Hs 0) (Hs ops.size) ∧ B.val (Hs 0).next ≤ B.val (Hs ops.size).next ∧ ∀ ρ a w w0 (id : Nat) (Q : Exit → Act → World → Prop), ARel ρ nt (Ts 0) a → HRel ρ (Hs 0) w w0 → (∀ ρ' a' w', Ext (Hs 0).floor ρ ρ' → ARel ρ' nt (Ts ops.size) a' → HRel ρ' (Hs ops.size) w' w0 → Q .normal a' w') → (Code.region id ops true).wp P Q a w := by
  have kk : ∀ c, c ≤ ops.size → KeepF (Hs 0) (Hs c) ∧ B.val (Hs 0).next ≤ B.val (Hs c).next := by
    intro c
    induction c with
    | zero => intro _; exact ⟨KeepF.refl _, Nat.le_refl _⟩
    | succ c ih =>
      intro hc
      obtain ⟨k1, k2⟩ := ih (by omega)
      by_cases hl : lo c
      · obtain ⟨v, g, _, e2, e3, e4, _⟩ := (hlo c _ hl (Array.getElem?_eq_getElem (show c < ops.size by omega))).ex
        simp only [if_true] at e2 e4
        rw [← e4] at e2 e3
        exact ⟨KeepF.trans k1 k2 e2, Nat.le_trans k2 e3⟩
      · rw [hsm c (by omega) hl]; exact ⟨k1, k2⟩
  obtain ⟨k1, k2⟩ := kk ops.size (Nat.le_refl _)
  refine ⟨k1, k2, fun ρ a w w0 id Q A R hQ => wp_region_any hm ?_⟩
  have hno : ∀ j, ¬ InL (Array.replicate ops.size false) j := by
    intro j; unfold InL
    by_cases hj : j < ops.size <;> simp [hj]
  refine any2 hd (Hs := Hs) (lo := lo) hs hch hlo hsm hqt (ρ0 := ρ) (w0 := w0) (fun ρ' a' w' q1 q2 q3 => hQ ρ' a' w' q1 q2 q3) ops.size _ a _ ρ (by simp) (by unfold left; exact Nat.le_trans (List.length_filter_le _ _) (by simp)) ?_ A.size A.defers (Ext.refl _ _) ?_ ⟨0, Nat.zero_le _, fun k _ _ => ⟨fun h => absurd h (hno k), fun h => absurd h (Nat.not_lt_zero _)⟩, R.dr _⟩
  · intro j o hj hin; exact absurd hin (hno j)
  · intro q h5
    exact ⟨0, Nat.zero_le _, .inl rfl, fun j o hj hdj => ⟨fun h => by omega, fun hin => absurd hin (hno j)⟩, A.slot q h5⟩
end
section
variable {P : Program}
theorem cow_app {bars : Nat → Bool} {nt : Nat} {all : List Oper} {cop : Op → CR} : ∀ {X : List CO} {l : List Oper} {n : Nat} {Y : List CO}, compOpsWith bars P nt all cop n l = X ++ Y →
    ∃ lx ly, l = lx ++ ly ∧ compOpsWith bars P nt all cop n lx = X ∧ compOpsWith bars P nt all cop (n + lx.length) ly = Y := by
  intro X
  induction X with
  | nil => intro l n Y h; exact ⟨[], l, rfl, rfl, h⟩
  | cons p X ih =>
    intro l n Y h
    match l, h with
    | [], h => cases h
    | o :: l, h =>
      have h1 := (List.cons.inj h).1
      obtain ⟨lx, ly, e1, e2, e3⟩ := ih (List.cons.inj h).2
      refine ⟨o :: lx, ly, by rw [e1]; rfl, by show _ :: compOpsWith bars P nt all cop (n + 1) lx = _; rw [e2, h1], ?_⟩
      rw [← e3, show n + (o :: lx).length = n + 1 + lx.length by simp; omega]
theorem cow_cons {bars : Nat → Bool} {nt : Nat} {all : List Oper} {cop : Op → CR} {l : List Oper} {n : Nat} {A : CO} {Y : List CO} (h : compOpsWith bars P nt all cop n l = A :: Y) :
    ∃ o l', l = o :: l' ∧ A = ⟨compG nt all o.guard, dOf nt o.dst, bars n, cop o.op⟩ ∧ compOpsWith bars P nt all cop (n + 1) l' = Y := by
  match l, h with
  | [], h => cases h
  | o :: l, h => exact ⟨o, l, rfl, (List.cons.inj h).1.symm, (List.cons.inj h).2⟩
/-- all but two leave memory alone; the second one comes behind all that touch it, or ahead of them -/
theorem dual_ok (hm : P.follows .mixedOrders = true) {nt : Nat} {ops : Array Oper} {Ts : Nat → F} (hd : drawsOk ops.toList = true) {n p : Nat} (hnp : n < p) (hp : p < ops.size) {h h2 h3 : H} (hbar : barAt P ops.toList (befs ops.toList []) p = true)
    (hQ0 : ∀ (i : Nat) o, i < p → i ≠ n → ops[i]? = some o → StepOk P nt ops i o true (Ts i) (Ts (i + 1)) h h ∧ StepOk P nt ops i o true (Ts i) (Ts (i + 1)) h2 h2)
    (hR0 : ∀ (i : Nat) o, p < i → ops[i]? = some o → StepOk P nt ops i o true (Ts i) (Ts (i + 1)) h3 h3)
    (hA : ∀ o, ops[n]? = some o → StepOk P nt ops n o true (Ts n) (Ts (n + 1)) h h2) (hB : ∀ o, ops[p]? = some o → StepOk P nt ops p o true (Ts p) (Ts (p + 1)) h2 h3) :
    KeepF h h3 ∧ B.val h.next ≤ B.val h3.next ∧ ∀ ρ a w w0 (id : Nat) (Q : Exit → Act → World → Prop), ARel ρ nt (Ts 0) a → HRel ρ h w w0 → (∀ ρ' a' w', Ext h.floor ρ ρ' → ARel ρ' nt (Ts ops.size) a' → HRel ρ' h3 w' w0 → Q .normal a' w') → (Code.region id ops true).wp P Q a w := by
  have hup : edgesUp 0 ops.toList = true := by simp only [drawsOk, Bool.and_eq_true] at hd; exact hd.1
  have hbr : ∀ (j : Nat) o, j ≠ p → ops[j]? = some o → still P o.op = false → (j < p → Reach ops.toList p j) ∧ (p < j → Reach ops.toList j p) := fun j o hj ho hst => by
    rcases bar_ok hbar ((Array.getElem?_toList (xs := ops) (i := j)).trans ho) hst (Ne.symm hj) with h | h
    · have := h.lt hup; exact ⟨fun _ => by omega, fun _ => h⟩
    · have := h.lt hup; exact ⟨fun _ => h, fun _ => by omega⟩
  have ha : ops[n]? = some (ops[n]'(by omega)) := Array.getElem?_eq_getElem _
  let Hs : Nat → H := fun i => if i ≤ n then h else if i ≤ p then h2 else h3
  have V0 : ∀ i, i ≤ n → Hs i = h := fun i hi => if_pos hi
  have V1 : ∀ i, n < i → i ≤ p → Hs i = h2 := fun i h1 h3 => by
    show (if _ then _ else _) = _
    rw [if_neg (by omega), if_pos h3]
  have V2 : ∀ i, p < i → Hs i = h3 := fun i h1 => by
    show (if _ then _ else _) = _
    rw [if_neg (by omega), if_neg (by omega)]
  have hs : Frm nt ops Ts := fun i o ho => by
    have S : ∃ g g', StepOk P nt ops i o true (Ts i) (Ts (i + 1)) g g' := by
      by_cases e : i = n
      · subst e; exact ⟨_, _, hA o ho⟩
      · rcases Nat.lt_trichotomy i p with h1 | h1 | h1
        · exact ⟨_, _, (hQ0 i o h1 e ho).1⟩
        · subst h1; exact ⟨_, _, hB o ho⟩
        · exact ⟨_, _, hR0 i o h1 ho⟩
    obtain ⟨g, g', S⟩ := S
    exact ⟨S.dst, S.rest⟩
  have R := chain_ok (nt := nt) (ops := ops) (Ts := Ts) (Hs := Hs) (lo := fun k => k = p ∨ (k = n ∧ ∀ o, ops[k]? = some o → still P o.op = false)) hm hd hs
    (fun i j hi hj hij hjN => by
      rcases hi with rfl | ⟨rfl, hi⟩
      · rcases hj with rfl | ⟨rfl, _⟩ <;> omega
      · rcases hj with rfl | ⟨rfl, _⟩
        · exact (hbr _ _ (by omega) ha (hi _ ha)).1 hnp
        · omega)
    (fun i o hi ho => by
      rcases hi with rfl | ⟨rfl, _⟩
      · rw [V1 _ hnp (Nat.le_refl _), V2 _ (by omega)]; exact hB o ho
      · rw [V0 _ (Nat.le_refl _), V1 _ (by omega) (by omega)]; exact hA o ho)
    (fun i hi hl => by
      by_cases h1 : i = n
      · subst h1
        rw [V0 _ (Nat.le_refl _), V1 _ (by omega) (by omega)]
        cases hst : still P (ops[i]'(by omega)).op with
        | true => exact (hA _ ha).calm hst
        | false => exact absurd (.inr ⟨rfl, fun o ho => by rw [ha] at ho; cases ho; exact hst⟩) hl
      · by_cases h2 : i = p
        · exact absurd (.inl h2) hl
        · by_cases h3 : i < n
          · rw [V0 _ (by omega), V0 _ (by omega)]
          · by_cases h4 : i < p
            · rw [V1 _ (by omega) (by omega), V1 _ (by omega) (by omega)]
            · rw [V2 _ (by omega), V2 _ (by omega)])
    (fun i o hl ho => by
      have hiN : i < ops.size := (Array.getElem?_eq_some_iff.1 ho).1
      by_cases h1 : i = n
      · subst h1
        refine ⟨⟨_, _, hA o ho⟩, .inl ?_⟩
        cases hst : still P o.op with
        | true => rfl
        | false => exact absurd (.inr ⟨rfl, fun o' ho' => by rw [ho] at ho'; cases ho'; exact hst⟩) hl
      · have h2 : i ≠ p := fun e => hl (.inl e)
        cases hst : still P o.op with
        | true =>
          refine ⟨?_, .inl rfl⟩
          by_cases h4 : i < p
          · exact ⟨_, _, (hQ0 i o h4 h1 ho).1⟩
          · exact ⟨_, _, hR0 i o (by omega) ho⟩
        | false =>
          obtain ⟨r1, r2⟩ := hbr i o h2 ho hst
          by_cases h4 : i < p
          · obtain ⟨x1, x2⟩ := hQ0 i o h4 h1 ho
            refine ⟨⟨_, _, x1⟩, .inr fun c c1 c2 c3 => ?_⟩
            have hcp : c ≤ p := Nat.le_of_not_lt fun h => c3 p (.inl rfl) h (r1 h4)
            by_cases h5 : c ≤ n
            · rw [V0 _ h5]; exact x1
            · rw [V1 _ (by omega) hcp]; exact x2
          · have x1 := hR0 i o (by omega) ho
            refine ⟨⟨_, _, x1⟩, .inr fun c c1 c2 c3 => ?_⟩
            rw [V2 _ (c2 p (.inl rfl) (r2 (by omega)))]; exact x1)
  rw [V0 0 (Nat.zero_le _), V2 ops.size hp] at R
  exact R
theorem eqV1_ok {x y : V} (h : eqV1 x y = true) : x = y := by
  cases x with
  | b x =>
    obtain ⟨z, rfl, h⟩ := vB_ok (show vB y (fun y => eqBo x y) = true from h)
    cases x <;> cases z <;> first | rfl | cases h
  | i kd n =>
    obtain ⟨kd', n', rfl, h⟩ := vI_ok (show vI y (fun kd' n' => ifK (kdEq kd kd') fun _ => eqI n n') = true from h)
    obtain ⟨h1, h⟩ := ifK_ok h
    rw [eqI_eq] at h
    rw [kdEq_ok h1, eq_of_beq h]
  | s len n =>
    obtain ⟨len', n', rfl, h⟩ := vS_ok (show vS y (fun len' n' => ifK (Nat.beq len len') fun _ => Nat.beq n n') = true from h)
    obtain ⟨h1, h⟩ := ifK_ok h
    rw [Nat.eq_of_beq_eq_true h1, Nat.eq_of_beq_eq_true h]
  | p id g off fin =>
    obtain ⟨id', g', off', fin', rfl, h⟩ := vP_ok (show vP y (fun id' g' off' fin' => ifK (Nat.beq (B.val id) (B.val id')) fun _ => ifK (Nat.beq g g') fun _ => ifK (Nat.beq off off') fun _ => Nat.beq fin fin') = true from h)
    obtain ⟨h1, h⟩ := ifK_ok h
    obtain ⟨h2, h⟩ := ifK_ok h
    obtain ⟨h3, h⟩ := ifK_ok h
    rw [B.val_inj (Nat.eq_of_beq_eq_true h1), Nat.eq_of_beq_eq_true h2, Nat.eq_of_beq_eq_true h3, Nat.eq_of_beq_eq_true h]
  | p0 =>
    rcases vPZ_ok (show vPZ y (fun _ => true) (fun _ _ _ _ => false) = true from h) with ⟨rfl, h⟩ | ⟨_, _, _, _, rfl, h⟩
    · rfl
    · cases h
  | l0 =>
    rcases vL_ok (show vL y (fun _ => true) (fun _ _ _ _ _ _ => false) = true from h) with ⟨rfl, h⟩ | ⟨_, _, _, _, _, _, rfl, h⟩
    · rfl
    · cases h
  | l id g off len fin cap =>
    rcases vL_ok (show vL y (fun _ => false) (fun id' g' off' len' fin' cap' => ifK (Nat.beq (B.val id) (B.val id')) fun _ => ifK (Nat.beq g g') fun _ => ifK (Nat.beq off off') fun _ => ifK (Nat.beq len len') fun _ => ifK (Nat.beq fin fin') fun _ => eqO cap cap') = true from h) with ⟨rfl, h⟩ | ⟨id', g', off', len', fin', cap', rfl, h⟩
    · cases h
    · obtain ⟨h1, h⟩ := ifK_ok h
      obtain ⟨h2, h⟩ := ifK_ok h
      obtain ⟨h3, h⟩ := ifK_ok h
      obtain ⟨h4, h⟩ := ifK_ok h
      obtain ⟨h5, h⟩ := ifK_ok h
      have h6 : cap = cap' := by
        cases cap <;> cases cap' <;> first | rfl | cases h | exact congrArg some (Nat.eq_of_beq_eq_true h)
      rw [B.val_inj (Nat.eq_of_beq_eq_true h1), Nat.eq_of_beq_eq_true h2, Nat.eq_of_beq_eq_true h3, Nat.eq_of_beq_eq_true h4, Nat.eq_of_beq_eq_true h5, h6]
  | m0 =>
    have h' : vM y (fun _ => true) (fun _ => false) = true := h
    cases y <;> first | rfl | exact Bool.noConfusion h'
  | m id =>
    have h' : vM y (fun _ => false) (fun id' => Nat.beq (B.val id) (B.val id')) = true := h
    cases y <;> try exact Bool.noConfusion h'
    rw [B.val_inj (Nat.eq_of_beq_eq_true h')]
  | c0 =>
    have h' : vC y (fun _ => true) (fun _ => false) = true := h
    cases y <;> first | rfl | exact Bool.noConfusion h'
  | c id =>
    have h' : vC y (fun _ => false) (fun id' => Nat.beq (B.val id) (B.val id')) = true := h
    cases y <;> try exact Bool.noConfusion h'
    rw [B.val_inj (Nat.eq_of_beq_eq_true h')]
  | _ => exact Bool.noConfusion h
theorem eqVs_ok : ∀ {xs ys : List V}, eqVs xs ys = true → xs = ys
  | [], [], _ => rfl
  | [], _ :: _, h => Bool.noConfusion h
  | _ :: _, [], h => Bool.noConfusion h
  | x :: xs, y :: ys, h => by
    obtain ⟨h1, h2⟩ := ifK_ok (show ifK (eqV1 x y) (fun _ => eqVs xs ys) = true from h)
    rw [eqV1_ok h1, eqVs_ok h2]
theorem eqV_ok {x y : V} (h : eqV x y = true) : x = y := by
  cases x with
  | a cs =>
    obtain ⟨cs', rfl, h⟩ := vA_ok (show vA y (fun cs' => eqVs cs cs') = true from h)
    rw [eqVs_ok h]
  | _ => exact eqV1_ok h
theorem sameV {v1 v2 : V} {h1 h2 : H} (e : ∀ k : V → H → Bool, k v1 h1 = k v2 h2) : v2 = v1 ∧ h2 = h1 := by
  have := e fun t h => @decide (t = v1 ∧ h = h1) (Classical.propDecidable _)
  simp at this
  exact this
theorem sameF {t1 t2 : F} {h1 h2 : H} (e : ∀ k : F → H → Bool, k t1 h1 = k t2 h2) : t2 = t1 ∧ h2 = h1 := by
  have := e fun t h => @decide (t = t1 ∧ h = h1) (Classical.propDecidable _)
  simp at this
  exact this
theorem quiet_ok {o : Oper} (hq : quiet P o.op = true) {cf : CallF} (hcf : CfOk P cf) {t : F} {h : H} {v : V} {h' : H} (e : ∀ k', runK (compOp P o.op) cf t h k' = k' v h') : h' = h := by
  have base : still P o.op = true → h' = h := fun hs => by
    obtain ⟨v2, h2, r1, r2, r3, r4, r5⟩ := compOp_ok P o cf hcf t h _ (e fun _ _ => true)
    obtain ⟨_, rfl⟩ := sameV fun k => (e k).symm.trans (r1 k)
    exact (r5 hs).1
  cases ho : o.op with
  | load el x =>
    rw [ho] at e
    have e1 : ∀ k', runK (compLoad (tyAt P el) (compO x)) cf t h k' = k' v h' := e
    have key : ∀ (r : Run), (∃ s, r = doLoadA s (compO x)) ∨ r = doLoad (compO x) ∨ r = noRun → (∀ k', r cf t h k' = k' v h') → h' = h := by
      intro r hr e2
      rcases hr with ⟨s, rfl⟩ | rfl | rfl
      · have h1 := e2 fun _ _ => true
        simp only [doLoadA, oE_eq] at h1
        obtain ⟨id, g, off, fin, hv, h1⟩ := vP_ok h1
        obtain ⟨vs, n1, _⟩ := loadN_ok h1
        refine (sameV (v1 := .a vs) (v2 := v) (h1 := h) fun k => ?_).2
        rw [← e2 k]
        simp only [doLoadA, oE_eq, hv, vP_p, n1]
      · have h1 := e2 fun _ _ => true
        simp only [doLoad, oE_eq] at h1
        obtain ⟨id, g, off, fin, hv, h1⟩ := vP_ok h1
        obtain ⟨vs, n1, _⟩ := load1_ok h1
        refine (sameV (v1 := vs) (v2 := v) (h1 := h) fun k => ?_).2
        rw [← e2 k]
        simp only [doLoad, oE_eq, hv, vP_p, n1]
      · have h1 := e2 fun _ _ => true
        cases h1
    refine key _ ?_ e1
    unfold compLoad
    split
    · split
      · exact .inl ⟨_, rfl⟩
      · exact .inr (.inl rfl)
    · exact .inr (.inr rfl)
  | nilCheck x =>
    rw [ho] at e
    have e1 : ∀ k', doNilCheck (compO x) cf t h k' = k' v h' := e
    have h1 := e1 fun _ _ => true
    simp only [doNilCheck, oE_eq] at h1
    obtain ⟨id, g, off, fin, hv, h1⟩ := vP_ok h1
    refine (sameV (v1 := .p id g off fin) (v2 := v) (h1 := h) fun k => ?_).2
    rw [← e1 k]
    simp only [doNilCheck, oE_eq, hv, vP_p]
  | _ => exact base (by rw [ho] at hq ⊢; exact hq)
theorem opK_dr (o : CO) (cf : CallF) (ih : F → H → (F → H → Bool) → Bool) (t : F) (h : H) (k : F → H → Bool) : opK o cf ih t h k = drK (.mk o.guard o.dst true o.run) cf ih t h k := by
  obtain ⟨g, d, b, r⟩ := o
  show guardK g t (fun b => opGo b r d cf ih t h k) = guardK g t (fun b => drGo b true r d cf ih t h k)
  congr 1; funext b; cases b <;> rfl
section
variable {cf : CallF} {nt : Nat} {ops : Array Oper}
theorem op_step (hcf : CfOk P cf) {i : Nat} {o : Oper} (hi : ops[i]? = some o) {b : Bool} {t : F} {h : H} {ih : F → H → (F → H → Bool) → Bool} {k : F → H → Bool} (hk : opK ⟨compG nt ops.toList o.guard, dOf nt o.dst, b, compOp P o.op⟩ cf ih t h k = true) :
    ∃ t' h', (∀ ih' k', opK ⟨compG nt ops.toList o.guard, dOf nt o.dst, b, compOp P o.op⟩ cf ih' t h k' = ih' t' h' k') ∧ StepOk P nt ops i o true t t' h h' ∧ (quiet P o.op = true → h' = h) := by
  rw [opK_dr] at hk
  have hk' : drK ⟨compG nt ops.toList o.guard, dOf nt o.dst, true, compOp P o.op⟩ cf ih t h k = true := hk
  have e : ∀ ih' k', drK ⟨compG nt ops.toList o.guard, dOf nt o.dst, true, compOp P o.op⟩ cf ih' t h k' = guardK (compG nt ops.toList o.guard) t fun b => drGo b true (compOp P o.op) (dOf nt o.dst) cf ih' t h k' := fun _ _ => rfl
  rw [e] at hk'
  obtain ⟨b2, g1, g2⟩ := guard_ok hk'
  rw [g1] at hk'
  have fin : ∀ t' h', (∀ ih' k', drGo b2 true (compOp P o.op) (dOf nt o.dst) cf ih' t h k' = ih' t' h' k') → (quiet P o.op = true → h' = h) → ∃ t' h', (∀ ih' k', opK ⟨compG nt ops.toList o.guard, dOf nt o.dst, b, compOp P o.op⟩ cf ih' t h k' = ih' t' h' k') ∧ StepOk P nt ops i o true t t' h h' ∧ (quiet P o.op = true → h' = h) := fun t' h' q1 q2 => by
    have q3 : ∀ ih' k', drK ⟨compG nt ops.toList o.guard, dOf nt o.dst, true, compOp P o.op⟩ cf ih' t h k' = ih' t' h' k' := fun ih' k' => by rw [e, g1, q1]
    obtain ⟨t2, h2, a1, a2⟩ := dr_step hcf hi (bar := true) (ih := fun t h k => k t h) (k := fun _ _ => true) (q3 _ _)
    obtain ⟨rfl, rfl⟩ := sameF fun k => (q3 (fun t h k => k t h) k).symm.trans (a1 k)
    exact ⟨_, _, fun ih' k' => by rw [opK_dr]; exact q3 ih' k', a2, q2⟩
  cases b2 with
  | false =>
    have hk2 : putD (dOf nt o.dst) (.tu []) t (fun t => ih t h k) = true := hk'
    obtain ⟨t', p1, _⟩ := putD_ok hk2
    exact fin t' h (fun ih' k' => p1 fun t => ih' t h k') fun _ => rfl
  | true =>
    have hk2 : runK (compOp P o.op) cf t h (fun v h => putD (dOf nt o.dst) v t fun t => ih t h k) = true := hk'
    obtain ⟨v, h', r1, r2, r3, r4, r5⟩ := compOp_ok P o cf hcf t h _ hk2
    rw [r1] at hk2
    obtain ⟨t', p1, _⟩ := putD_ok hk2
    exact fin t' h' (fun ih' k' => (r1 fun v h => putD (dOf nt o.dst) v t fun t => ih' t h k').trans (p1 fun t => ih' t h' k')) fun hq => quiet_ok hq hcf r1
theorem lock_step (hcf : CfOk P cf) {i : Nat} {o : Oper} (hi : ops[i]? = some o) (hq : quiet P o.op = true) {b : Bool} {t : F} {h h2 : H} {ih : F → H → H → (F → Bool) → Bool} {k : F → Bool} (hk : lockK ⟨compG nt ops.toList o.guard, dOf nt o.dst, b, compOp P o.op⟩ cf ih t h h2 k = true) :
    ∃ t', (∀ ih' k', lockK ⟨compG nt ops.toList o.guard, dOf nt o.dst, b, compOp P o.op⟩ cf ih' t h h2 k' = ih' t' h h2 k') ∧ (∀ ih' k', opK ⟨compG nt ops.toList o.guard, dOf nt o.dst, b, compOp P o.op⟩ cf ih' t h k' = ih' t' h k') ∧
      StepOk P nt ops i o true t t' h h ∧ StepOk P nt ops i o true t t' h2 h2 := by
  have e : ∀ ih' k', lockK ⟨compG nt ops.toList o.guard, dOf nt o.dst, b, compOp P o.op⟩ cf ih' t h h2 k' = guardK (compG nt ops.toList o.guard) t fun b => lockGo b (compOp P o.op) (dOf nt o.dst) cf ih' t h h2 k' := fun _ _ => rfl
  have eo : ∀ (g : H) ih' k', opK ⟨compG nt ops.toList o.guard, dOf nt o.dst, b, compOp P o.op⟩ cf ih' t g k' = guardK (compG nt ops.toList o.guard) t fun b => opGo b (compOp P o.op) (dOf nt o.dst) cf ih' t g k' := fun _ _ _ => rfl
  rw [e] at hk
  obtain ⟨b2, g1, g2⟩ := guard_ok hk
  rw [g1] at hk
  have one : ∀ (g : H) t', (∀ ih' k', opGo b2 (compOp P o.op) (dOf nt o.dst) cf ih' t g k' = ih' t' g k') → (∀ ih' k', opK ⟨compG nt ops.toList o.guard, dOf nt o.dst, b, compOp P o.op⟩ cf ih' t g k' = ih' t' g k') ∧ StepOk P nt ops i o true t t' g g := fun g t' q => by
    have q3 : ∀ ih' k', opK ⟨compG nt ops.toList o.guard, dOf nt o.dst, b, compOp P o.op⟩ cf ih' t g k' = ih' t' g k' := fun ih' k' => by rw [eo, g1, q]
    obtain ⟨t2, h3, a1, a2, a3⟩ := op_step hcf hi (ih := fun t h k => k t h) (k := fun _ _ => true) (q3 _ _)
    obtain ⟨rfl, rfl⟩ := sameF fun k => (q3 (fun t h k => k t h) k).symm.trans (a1 (fun t h k => k t h) k)
    exact ⟨q3, a2⟩
  cases b2 with
  | false =>
    have hk2 : putD (dOf nt o.dst) (.tu []) t (fun t => ih t h h2 k) = true := hk
    obtain ⟨t', p1, _⟩ := putD_ok hk2
    have q : ∀ (g : H) ih' k', opGo false (compOp P o.op) (dOf nt o.dst) cf ih' t g k' = ih' t' g k' := fun g ih' k' => p1 fun t => ih' t g k'
    obtain ⟨x1, x2⟩ := one h t' (q h)
    obtain ⟨y1, y2⟩ := one h2 t' (q h2)
    exact ⟨t', fun ih' k' => by rw [e, g1]; exact p1 fun t => ih' t h h2 k', x1, x2, y2⟩
  | true =>
    have hk2 : runK (compOp P o.op) cf t h (fun v _ => runK (compOp P o.op) cf t h2 fun v' _ => ifK (eqV v v') fun _ => putD (dOf nt o.dst) v t fun t => ih t h h2 k) = true := hk
    obtain ⟨v, h', r1, r2, r3, r4, r5⟩ := compOp_ok P o cf hcf t h _ hk2
    obtain rfl := quiet_ok hq hcf r1
    rw [r1] at hk2
    obtain ⟨v', h2', s1, s2, s3, s4, s5⟩ := compOp_ok P o cf hcf t h2 _ hk2
    obtain rfl := quiet_ok hq hcf s1
    rw [s1] at hk2
    obtain ⟨hv, hk2⟩ := ifK_ok hk2
    obtain ⟨t', p1, _⟩ := putD_ok hk2
    obtain rfl := eqV_ok hv
    obtain ⟨x1, x2⟩ := one h' t' fun ih' k' => (r1 _).trans (p1 fun t => ih' t h' k')
    obtain ⟨y1, y2⟩ := one h2' t' fun ih' k' => (s1 _).trans (p1 fun t => ih' t h2' k')
    refine ⟨t', fun ih' k' => ?_, x1, x2, y2⟩
    rw [e, g1]
    show runK (compOp P o.op) cf t h' (fun v _ => runK (compOp P o.op) cf t h2' fun v' _ => ifK (eqV v v') fun _ => putD (dOf nt o.dst) v t fun t => ih' t h' h2' k') = _
    rw [r1, s1, hv, ifK_true]
    exact p1 fun t => ih' t h' h2' k'
/-- all operations, one by one -/
theorem ch_trace (hcf : CfOk P cf) (bars : Nat → Bool) : ∀ (l : List Oper) (n : Nat), ops.toList.drop n = l → ∀ (t : F) (h : H) (k : List (F × H) → F → H → Bool),
    chRun cf (compOpsWith bars P nt ops.toList (compOp P) n l) t h k = true →
    ∃ (Ts : Nat → F) (Hs : Nat → H) (L : List (F × H)), Ts n = t ∧ Hs n = h ∧ (∀ k', chRun cf (compOpsWith bars P nt ops.toList (compOp P) n l) t h k' = k' L (Ts (n + l.length)) (Hs (n + l.length))) ∧ (∀ m, m < l.length → L[m]? = some (Ts (n + m + 1), Hs (n + m + 1))) ∧ L.length = l.length ∧
      ∀ (i : Nat) o, n ≤ i → ops[i]? = some o → StepOk P nt ops i o true (Ts i) (Ts (i + 1)) (Hs i) (Hs (i + 1)) ∧ (quiet P o.op = true → Hs (i + 1) = Hs i) ∧ ∀ b ih' k', opK ⟨compG nt ops.toList o.guard, dOf nt o.dst, b, compOp P o.op⟩ cf ih' (Ts i) (Hs i) k' = ih' (Ts (i + 1)) (Hs (i + 1)) k' := by
  intro l
  induction l with
  | nil =>
    intro n hl t h k hk
    refine ⟨fun _ => t, fun _ => h, [], rfl, rfl, fun _ => rfl, fun m hm => by simp at hm, rfl, fun i o h1 h2 => ?_⟩
    have h3 : i < ops.size := (Array.getElem?_eq_some_iff.1 h2).1
    have := congrArg List.length hl
    simp at this; omega
  | cons o l ih =>
    intro n hl t h k hk
    have hn : ops[n]? = some o := by
      have : ops.toList[n]? = some o := by
        have := congrArg (fun l => l[0]?) hl
        simpa using this
      simpa using this
    have e : ∀ k', chRun cf (compOpsWith bars P nt ops.toList (compOp P) n (o :: l)) t h k' = opK ⟨compG nt ops.toList o.guard, dOf nt o.dst, bars n, compOp P o.op⟩ cf (fun t1 h1 _ => chRun cf (compOpsWith bars P nt ops.toList (compOp P) (n + 1) l) t1 h1 fun l t2 h2 => k' ((t1, h1) :: l) t2 h2) t h fun _ _ => true := fun _ => rfl
    rw [e] at hk
    obtain ⟨t1, h1, a1, a2, a3⟩ := op_step hcf hn hk
    rw [a1] at hk
    have hl' : ops.toList.drop (n + 1) = l := by rw [← List.drop_drop, hl]; rfl
    obtain ⟨Ts, Hs, L, b1, b2, b3, b4, b5, b6⟩ := ih (n + 1) hl' t1 h1 _ hk
    have e1 : n + (o :: l).length = n + 1 + l.length := by simp; omega
    have e2 : ∀ m, n < m → ¬ m = n := fun m hm => by omega
    refine ⟨fun i => if i = n then t else Ts i, fun i => if i = n then h else Hs i, (t1, h1) :: L, by simp, by simp, fun k' => ?_, fun m hm => ?_, by simp [b5], fun i oi h1' hi => ?_⟩
    · rw [e1]; simp only [e2 _ (show n < n + 1 + l.length by omega), if_false]; rw [e, a1, b3]
    · cases m with
      | zero => simp only [Nat.add_zero, e2 _ (Nat.lt_succ_self n), if_false]; rw [b1, b2]; rfl
      | succ m =>
        simp only [e2 _ (show n < n + (m + 1) + 1 by omega), if_false]
        rw [List.getElem?_cons_succ, b4 m (by simpa using hm), show n + (m + 1) + 1 = n + 1 + m + 1 by omega]
    · by_cases hin : i = n
      · subst hin
        rw [hn] at hi
        cases hi
        simp only [if_true, e2 _ (Nat.lt_succ_self i), if_false, b1, b2]
        refine ⟨a2, a3, fun b ih' k' => ?_⟩
        rw [opK_dr]
        have := a1 ih' k'
        rw [opK_dr] at this
        exact this
      · simp only [hin, if_false, e2 _ (show n < i + 1 by omega)]
        exact b6 i oi (by omega) hi
theorem chJs_ok (hcf : CfOk P cf) {i : Nat} {o : Oper} (hi : ops[i]? = some o) (hq : quiet P o.op = true) {b : Bool} {l : List (F × H)} {ti : F} {h : H} : ∀ {js : List Nat} {k : Unit → Bool},
    chJs ⟨compG nt ops.toList o.guard, dOf nt o.dst, b, compOp P o.op⟩ cf l ti h js k = true →
    (∀ k', chJs ⟨compG nt ops.toList o.guard, dOf nt o.dst, b, compOp P o.op⟩ cf l ti h js k' = k' ()) ∧ ∀ j ∈ js, ∃ tj hj t', l[j]? = some (tj, hj) ∧ StepOk P nt ops i o true ti t' hj hj ∧ ∀ ih' k', opK ⟨compG nt ops.toList o.guard, dOf nt o.dst, b, compOp P o.op⟩ cf ih' ti h k' = ih' t' h k'
  | [], k, hk => ⟨fun _ => rfl, fun j hj => by cases hj⟩
  | j :: js, k, hk => by
    have e : ∀ k', chJs ⟨compG nt ops.toList o.guard, dOf nt o.dst, b, compOp P o.op⟩ cf l ti h (j :: js) k' = optK l[j]? (fun th => Prod.rec (fun _ hj => lockK ⟨compG nt ops.toList o.guard, dOf nt o.dst, b, compOp P o.op⟩ cf (fun t _ _ k => k t) ti h hj fun _ => chJs ⟨compG nt ops.toList o.guard, dOf nt o.dst, b, compOp P o.op⟩ cf l ti h js k') th) := fun _ => rfl
    rw [e] at hk
    obtain ⟨⟨tj, hj⟩, h1, hk⟩ := optK_ok hk
    have hk : lockK ⟨compG nt ops.toList o.guard, dOf nt o.dst, b, compOp P o.op⟩ cf (fun t _ _ k => k t) ti h hj (fun _ => chJs ⟨compG nt ops.toList o.guard, dOf nt o.dst, b, compOp P o.op⟩ cf l ti h js k) = true := hk
    obtain ⟨t', a1, a2, a3, a4⟩ := lock_step hcf hi hq hk
    rw [a1] at hk
    obtain ⟨b1, b2⟩ := chJs_ok hcf hi hq hk
    refine ⟨fun k' => ?_, fun q hq' => ?_⟩
    · rw [e, h1]
      show lockK ⟨compG nt ops.toList o.guard, dOf nt o.dst, b, compOp P o.op⟩ cf (fun t _ _ k => k t) ti h hj (fun _ => chJs ⟨compG nt ops.toList o.guard, dOf nt o.dst, b, compOp P o.op⟩ cf l ti h js k') = _
      rw [a1, b1]
    · rcases List.mem_cons.1 hq' with rfl | hq'
      · exact ⟨tj, hj, t', h1, a4, a2⟩
      · exact b2 q hq'
theorem cow_get {bars : Nat → Bool} {all : List Oper} {cop : Op → CR} : ∀ {l : List Oper} {n i : Nat} {o : Oper}, l[i]? = some o → (compOpsWith bars P nt all cop n l)[i]? = some ⟨compG nt all o.guard, dOf nt o.dst, bars (n + i), cop o.op⟩
  | [], _, _, _, h => by simp at h
  | x :: l, n, 0, o, h => by
    obtain rfl : x = o := by simpa using h
    rfl
  | x :: l, n, i + 1, o, h => by
    have := cow_get (bars := bars) (all := all) (cop := cop) (l := l) (n := n + 1) (i := i) (o := o) (by simpa using h)
    rw [show n + 1 + i = n + (i + 1) by omega] at this
    exact this
theorem chChk_ok (hcf : CfOk P cf) (bars : Nat → Bool) {l : List (F × H)} : ∀ {cs : List (Nat × List Nat)}, (∀ p ∈ cs, ∃ o, ops[p.1]? = some o ∧ quiet P o.op = true) → ∀ {k : Unit → Bool},
    chChk cf (compOpsWith bars P nt ops.toList (compOp P) 0 ops.toList) l cs k = true →
    (∀ k', chChk cf (compOpsWith bars P nt ops.toList (compOp P) 0 ops.toList) l cs k' = k' ()) ∧ ∀ p ∈ cs, ∀ o, ops[p.1]? = some o → ∃ ti h b, l[p.1]? = some (ti, h) ∧ ∀ j ∈ p.2, ∃ tj hj t', l[j]? = some (tj, hj) ∧ StepOk P nt ops p.1 o true ti t' hj hj ∧ ∀ ih' k', opK ⟨compG nt ops.toList o.guard, dOf nt o.dst, b, compOp P o.op⟩ cf ih' ti h k' = ih' t' h k'
  | [], _, k, hk => ⟨fun _ => rfl, fun p hp => by cases hp⟩
  | (i, js) :: cs, hcs, k, hk => by
    have e : ∀ k', chChk cf (compOpsWith bars P nt ops.toList (compOp P) 0 ops.toList) l ((i, js) :: cs) k' = optK (compOpsWith bars P nt ops.toList (compOp P) 0 ops.toList)[i]? fun o => optK l[i]? fun th => Prod.rec (fun ti hi => chJs o cf l ti hi js fun _ => chChk cf (compOpsWith bars P nt ops.toList (compOp P) 0 ops.toList) l cs k') th := fun _ => rfl
    obtain ⟨o, ho, hq⟩ := hcs (i, js) (by simp)
    have ho : ops[i]? = some o := ho
    have hg := cow_get (P := P) (nt := nt) (bars := bars) (all := ops.toList) (cop := compOp P) (n := 0) ((Array.getElem?_toList (xs := ops) (i := i)).trans ho)
    rw [Nat.zero_add] at hg
    rw [e, hg] at hk
    obtain ⟨⟨ti, hi⟩, h1, hk⟩ := optK_ok (show optK l[i]? (fun th => Prod.rec (fun ti hi => chJs ⟨compG nt ops.toList o.guard, dOf nt o.dst, bars i, compOp P o.op⟩ cf l ti hi js fun _ => chChk cf (compOpsWith bars P nt ops.toList (compOp P) 0 ops.toList) l cs k) th) = true from hk)
    have hk : chJs ⟨compG nt ops.toList o.guard, dOf nt o.dst, bars i, compOp P o.op⟩ cf l ti hi js (fun _ => chChk cf (compOpsWith bars P nt ops.toList (compOp P) 0 ops.toList) l cs k) = true := hk
    obtain ⟨a1, a2⟩ := chJs_ok hcf ho hq hk
    rw [a1] at hk
    obtain ⟨b1, b2⟩ := chChk_ok hcf bars (fun p hp => hcs p (List.mem_cons_of_mem _ hp)) hk
    refine ⟨fun k' => ?_, fun p hp => ?_⟩
    · rw [e, hg, h1]
      show chJs ⟨compG nt ops.toList o.guard, dOf nt o.dst, bars i, compOp P o.op⟩ cf l ti hi js (fun _ => chChk cf (compOpsWith bars P nt ops.toList (compOp P) 0 ops.toList) l cs k') = _
      rw [a1, b1]
    · rcases List.mem_cons.1 hp with rfl | hp
      · intro o' ho'
        have ho' : ops[i]? = some o' := ho'
        rw [ho] at ho'; cases ho'
        exact ⟨ti, hi, bars i, h1, a2⟩
      · exact b2 p hp
theorem louds_mem {k : Nat} : ∀ {l : List Oper} {n : Nat}, k ∈ loudsOf P n l ↔ ∃ i o, k = n + i ∧ l[i]? = some o ∧ quiet P o.op = false
  | [], n => by simp [loudsOf]
  | o :: l, n => by
    have ih := louds_mem (k := k) (l := l) (n := n + 1)
    have tail : (k ∈ loudsOf P (n + 1) l) ↔ ∃ i x, k = n + (i + 1) ∧ l[i]? = some x ∧ quiet P x.op = false := by
      rw [ih]
      constructor
      · rintro ⟨i, x, h1, h2, h3⟩; exact ⟨i, x, by omega, h2, h3⟩
      · rintro ⟨i, x, h1, h2, h3⟩; exact ⟨i, x, by omega, h2, h3⟩
    cases hq : quiet P o.op with
    | true =>
      have e : loudsOf P n (o :: l) = loudsOf P (n + 1) l := by simp only [loudsOf, hq]
      rw [e, tail]
      constructor
      · rintro ⟨i, x, h1, h2, h3⟩; exact ⟨i + 1, x, h1, by simpa using h2, h3⟩
      · rintro ⟨i, x, h1, h2, h3⟩
        cases i with
        | zero => simp at h2; rw [← h2, hq] at h3; cases h3
        | succ i => exact ⟨i, x, h1, by simpa using h2, h3⟩
    | false =>
      have e : loudsOf P n (o :: l) = n :: loudsOf P (n + 1) l := by simp only [loudsOf, hq]
      rw [e, List.mem_cons, tail]
      constructor
      · rintro (rfl | ⟨i, x, h1, h2, h3⟩)
        · exact ⟨0, o, by omega, rfl, hq⟩
        · exact ⟨i + 1, x, h1, by simpa using h2, h3⟩
      · rintro ⟨i, x, h1, h2, h3⟩
        cases i with
        | zero => exact .inl (by omega)
        | succ i => exact .inr ⟨i, x, h1, by simpa using h2, h3⟩
theorem chks_mem {bs louds : List Nat} {p : Nat × List Nat} : ∀ {l : List Oper} {n : Nat}, p ∈ chksOf P bs louds n l ↔ ∃ i o, p = (n + i, jsOf bs louds (n + i)) ∧ l[i]? = some o ∧ quiet P o.op = true ∧ still P o.op = false
  | [], n => by simp [chksOf]
  | o :: l, n => by
    have ih := chks_mem (bs := bs) (louds := louds) (p := p) (l := l) (n := n + 1)
    have tail : (p ∈ chksOf P bs louds (n + 1) l) ↔ ∃ i x, p = (n + (i + 1), jsOf bs louds (n + (i + 1))) ∧ l[i]? = some x ∧ quiet P x.op = true ∧ still P x.op = false := by
      rw [ih]
      constructor
      · rintro ⟨i, x, h1, h2⟩; exact ⟨i, x, by rw [h1, show n + 1 + i = n + (i + 1) by omega], h2⟩
      · rintro ⟨i, x, h1, h2⟩; exact ⟨i, x, by rw [h1, show n + (i + 1) = n + 1 + i by omega], h2⟩
    cases hq : (quiet P o.op && !still P o.op) with
    | false =>
      have e : chksOf P bs louds n (o :: l) = chksOf P bs louds (n + 1) l := by simp only [chksOf, hq]
      rw [e, tail]
      constructor
      · rintro ⟨i, x, h1, h2⟩; exact ⟨i + 1, x, h1, by simpa using h2⟩
      · rintro ⟨i, x, h1, h2, h3, h4⟩
        cases i with
        | zero => simp at h2; subst h2; rw [h3, h4] at hq; cases hq
        | succ i => exact ⟨i, x, h1, by simpa using h2, h3, h4⟩
    | true =>
      have e : chksOf P bs louds n (o :: l) = (n, jsOf bs louds n) :: chksOf P bs louds (n + 1) l := by simp only [chksOf, hq]
      rw [e, List.mem_cons, tail]
      simp only [Bool.and_eq_true, Bool.not_eq_true'] at hq
      constructor
      · rintro (rfl | ⟨i, x, h1, h2⟩)
        · exact ⟨0, o, rfl, rfl, hq.1, hq.2⟩
        · exact ⟨i + 1, x, h1, by simpa using h2⟩
      · rintro ⟨i, x, h1, h2⟩
        cases i with
        | zero => exact .inl h1
        | succ i => exact .inr ⟨i, x, h1, by simpa using h2⟩
theorem bef_reach {l : List Oper} {j i : Nat} (h : befBit (befs l []) j i = true) : Reach l j i := befs_ok l l [] rfl (fun j i h => by simp at h) j i h
/-- the premises, by what was compiled -/
theorem chain_of (hm : P.follows .mixedOrders = true) (hd : drawsOk ops.toList = true) {ld : List Nat} {cs : List (Nat × List Nat)} (ec : chainOf P (barAt P ops.toList (befs ops.toList [])) (befs ops.toList []) ops.toList = some (ld, cs)) {Ts : Nat → F} {Hs : Nat → H}
    (hst : ∀ (i : Nat) o, ops[i]? = some o → StepOk P nt ops i o true (Ts i) (Ts (i + 1)) (Hs i) (Hs (i + 1)) ∧ (quiet P o.op = true → Hs (i + 1) = Hs i))
    (hck : ∀ p ∈ cs, ∀ o, ops[p.1]? = some o → ∀ j ∈ p.2, StepOk P nt ops p.1 o true (Ts p.1) (Ts (p.1 + 1)) (Hs j) (Hs j)) :
    KeepF (Hs 0) (Hs ops.size) ∧ B.val (Hs 0).next ≤ B.val (Hs ops.size).next ∧ ∀ ρ a w w0 (id : Nat) (Q : Exit → Act → World → Prop), ARel ρ nt (Ts 0) a → HRel ρ (Hs 0) w w0 → (∀ ρ' a' w', Ext (Hs 0).floor ρ ρ' → ARel ρ' nt (Ts ops.size) a' → HRel ρ' (Hs ops.size) w' w0 → Q .normal a' w') → (Code.region id ops true).wp P Q a w := by
  unfold chainOf at ec
  split at ec
  case h_2 => cases ec
  rename_i hb
  cases ec
  simp only [Bool.and_eq_true] at hb
  have hoq : ∀ {i : Nat} {o}, ops[i]? = some o ↔ ops.toList[i]? = some o := fun {i o} => by rw [Array.getElem?_toList]
  have hld : ∀ {i : Nat} {o}, ops[i]? = some o → quiet P o.op = false → i ∈ loudsOf P 0 ops.toList := fun {i o} h1 h2 => louds_mem.2 ⟨i, o, by omega, hoq.1 h1, h2⟩
  exact chain_ok (nt := nt) (ops := ops) (Ts := Ts) (Hs := Hs) (lo := fun k => ∃ o, ops[k]? = some o ∧ quiet P o.op = false) hm hd
    (fun i o ho => ⟨(hst i o ho).1.dst, (hst i o ho).1.rest⟩)
    (fun i j ⟨oi, hi, qi⟩ ⟨oj, hj, qj⟩ hij _ => by
      have := hb.2
      unfold chainB at this
      have := (List.all_eq_true.1 ((List.all_eq_true.1 this) j (hld hj qj))) i (hld hi qi)
      rw [Bool.or_eq_true] at this
      rcases this with h | h
      · have := Nat.le_of_ble_eq_true h; omega
      · exact bef_reach h)
    (fun i o _ ho => (hst i o ho).1)
    (fun i hi hl => by
      have ho : ops[i]? = some (ops[i]'hi) := Array.getElem?_eq_getElem _
      refine (hst i _ ho).2 ?_
      cases hq : quiet P (ops[i]'hi).op with
      | true => rfl
      | false => exact absurd ⟨_, ho, hq⟩ hl)
    (fun i o hl ho => by
      have hq : quiet P o.op = true := by
        cases hq : quiet P o.op with
        | true => rfl
        | false => exact absurd ⟨_, ho, hq⟩ hl
      have S := (hst i o ho).1
      refine ⟨⟨_, _, S⟩, ?_⟩
      cases hst2 : still P o.op with
      | true => exact .inl rfl
      | false =>
        refine .inr fun c hc d1 d2 => ?_
        -- the last one that is ahead of c
        have hex : ∀ c, c ≤ ops.size → ∃ j, (j = 0 ∨ ∃ m, j = m + 1 ∧ m ∈ loudsOf P 0 ops.toList) ∧ j ≤ c ∧ Hs c = Hs j ∧ ∀ k, (∃ o, ops[k]? = some o ∧ quiet P o.op = false) → k < c → k < j := by
          intro c
          induction c with
          | zero => intro _; exact ⟨0, .inl rfl, Nat.le_refl _, rfl, fun k _ h => by omega⟩
          | succ c ih =>
            intro hc
            have hoc : ops[c]? = some (ops[c]'(by omega)) := Array.getElem?_eq_getElem _
            cases hqc : quiet P (ops[c]'(by omega)).op with
            | true =>
              obtain ⟨j, j1, j2, j3, j4⟩ := ih (by omega)
              refine ⟨j, j1, by omega, by rw [(hst c _ hoc).2 hqc, j3], fun k hk hkc => ?_⟩
              by_cases e : k = c
              · subst e
                obtain ⟨o', h1, h2⟩ := hk
                rw [hoc] at h1; cases h1
                rw [hqc] at h2; cases h2
              · exact j4 k hk (by omega)
            | false => exact ⟨c + 1, .inr ⟨c, rfl, hld hoc hqc⟩, Nat.le_refl _, rfl, fun k _ hk => hk⟩
        obtain ⟨j, j1, j2, j3, j4⟩ := hex c hc
        have hj : j ∈ jsOf (befs ops.toList []) (loudsOf P 0 ops.toList) i := by
          unfold jsOf
          rw [List.mem_filter]
          refine ⟨?_, ?_⟩
          · rcases j1 with rfl | ⟨m, rfl, hm⟩
            · simp
            · exact List.mem_cons_of_mem _ (List.mem_map_of_mem hm)
          · unfold jOk
            rw [List.all_eq_true]
            intro k hk
            obtain ⟨k', ok, rfl, hk1, hk2⟩ := louds_mem.1 hk
            rw [Nat.zero_add]
            have hlk : ∃ o, ops[k']? = some o ∧ quiet P o.op = false := ⟨ok, hoq.2 hk1, hk2⟩
            rw [Bool.and_eq_true]
            constructor
            · cases hbb : befBit (befs ops.toList []) i k' with
              | false => rfl
              | true =>
                have := j4 k' hlk (d1 k' hlk (bef_reach hbb))
                rw [Bool.not_true, Bool.false_or, Nat.ble_eq]; omega
            · cases hbb : befBit (befs ops.toList []) k' i with
              | false => rw [Bool.not_false, Bool.or_true]
              | true =>
                rw [Bool.not_true, Bool.or_false, Bool.not_eq_true']
                cases hle : Nat.ble (k' + 1) j with
                | false => rfl
                | true => exact absurd (bef_reach hbb) (d2 k' hlk (by have := Nat.le_of_ble_eq_true hle; omega))
        rw [j3]
        exact hck (i, jsOf (befs ops.toList []) (loudsOf P 0 ops.toList) i) (chks_mem.2 ⟨i, o, by rw [Nat.zero_add], hoq.1 ho, hq, hst2⟩) o ho j hj)
/-- WHAT THE EVALUATOR MAKES OF SUCH A REGION -/
theorem drawsCh_ok (hm : P.follows .mixedOrders = true) (hcf : CfOk P cf) (hd : drawsOk ops.toList = true) {ld : List Nat} {cs : List (Nat × List Nat)} (ec : chainOf P (barAt P ops.toList (befs ops.toList [])) (befs ops.toList []) ops.toList = some (ld, cs)) (bars : Nat → Bool)
    {t : F} {h : H} {k : F → H → Bool} (hk : execCh cf (compOpsWith bars P nt ops.toList (compOp P) 0 ops.toList) cs t h k = true) :
    ∃ t' h', (∀ k', execCh cf (compOpsWith bars P nt ops.toList (compOp P) 0 ops.toList) cs t h k' = k' t' h') ∧ KeepF h h' ∧ B.val h.next ≤ B.val h'.next ∧
      ∀ ρ a w w0 (id : Nat) (Q : Exit → Act → World → Prop), ARel ρ nt t a → HRel ρ h w w0 → (∀ ρ' a' w', Ext h.floor ρ ρ' → ARel ρ' nt t' a' → HRel ρ' h' w' w0 → Q .normal a' w') → (Code.region id ops true).wp P Q a w := by
  have hoq : ∀ {i : Nat} {o}, ops[i]? = some o ↔ ops.toList[i]? = some o := fun {i o} => by rw [Array.getElem?_toList]
  have hcs : cs = chksOf P (befs ops.toList []) (loudsOf P 0 ops.toList) 0 ops.toList := by
    unfold chainOf at ec
    split at ec
    · cases ec; rfl
    · cases ec
  unfold execCh at hk
  obtain ⟨Ts, Hs, L, b1, b2, b3, b4, b5, b6⟩ := ch_trace hcf bars ops.toList 0 rfl t h _ hk
  rw [Nat.zero_add] at b3
  simp only [Nat.zero_add] at b4
  have hLL : ∀ {j : Nat} {tj hj}, ((t, h) :: L)[j]? = some (tj, hj) → tj = Ts j ∧ hj = Hs j := fun {j tj hj} e => by
    cases j with
    | zero => cases e; exact ⟨b1.symm, b2.symm⟩
    | succ m =>
      have hm : m < L.length := (List.getElem?_eq_some_iff.1 e).1 |> fun h => by simpa using h
      rw [List.getElem?_cons_succ, b4 m (by omega)] at e
      cases e; exact ⟨rfl, rfl⟩
  rw [b3] at hk
  obtain ⟨c1, c2⟩ := chChk_ok hcf bars (fun p hp => by
    rw [hcs] at hp
    obtain ⟨i, o, rfl, h2, h3, _⟩ := chks_mem.1 hp
    exact ⟨o, by rw [Nat.zero_add]; exact hoq.2 h2, h3⟩) hk
  have R := chain_of (nt := nt) hm hd ec (fun i o ho => ⟨(b6 i o (Nat.zero_le _) ho).1, (b6 i o (Nat.zero_le _) ho).2.1⟩) (fun p hp o ho j hj => by
    obtain ⟨ti, hi, b, e1, e2⟩ := c2 p hp o ho
    obtain ⟨rfl, rfl⟩ := hLL e1
    obtain ⟨tj, hj', t', g1, g2, g3⟩ := e2 j hj
    obtain ⟨rfl, rfl⟩ := hLL g1
    have e4 : t' = Ts (p.1 + 1) := by
      have := (b6 p.1 o (Nat.zero_le _) ho).2.2 b (fun t h k => k t h)
      exact (sameF fun k => (this k).symm.trans (g3 (fun t h k => k t h) k)).1
    rw [e4] at g2
    exact g2)
  have hlen : ops.toList.length = ops.size := by simp
  rw [hlen] at b3
  obtain ⟨R1, R2, R3⟩ := R
  rw [b2] at R1 R2 R3
  refine ⟨Ts ops.size, Hs ops.size, fun k' => ?_, R1, R2, fun ρ a w w0 id Q A R hQ => R3 ρ a w w0 id Q (by rw [b1]; exact A) R hQ⟩
  unfold execCh
  rw [b3, c1]
end
end
end Go.Ev

set_option linter.all false
namespace Go.Ev
open Go
theorem region_ok {tb : Nat → Option Sp} {P : Program} (htb : TbOk P tb) (hm : P.follows .mixedOrders = true) {n : Nat} (hE : ExOk tb P n) (nt id : Nat) (ops : Array Oper) (draw : Bool) (t : F) (h : H) (k : X → F → H → Bool)
    (hk : exec tb (compFn P) (n + 1) (comp P nt (.region id ops draw)) t h k = true) :
    ∃ x t' h', (∀ k', exec tb (compFn P) (n + 1) (comp P nt (.region id ops draw)) t h k' = k' x t' h') ∧ KeepF h h' ∧ B.val h.next ≤ B.val h'.next ∧ CodeSound P nt (.region id ops draw) t h x t' h' := by
  cases draw with
  | false =>
    cases hc : commAt 0 ops.toList with
    | none =>
      have e0 : comp P nt (.region id ops false) = .region (compOpsWith (fun _ => true) P nt ops.toList (compOp P) 0 ops.toList) := by
        show compRegion P nt ops.toList false = _
        simp only [compRegion, hc]
      have e : ∀ k', exec tb (compFn P) (n + 1) (comp P nt (.region id ops false)) t h k' = execOps (callF tb (exec tb (compFn P) n) (compFn P)) (compOpsWith (fun _ => true) P nt ops.toList (compOp P) 0 ops.toList) t h (regK k') := fun k' => by rw [e0]; rfl
      rw [e] at hk
      obtain ⟨t', h', a1, a2, a3, a4⟩ := ops_ok (cf_ok htb hE) (fun _ => true) ops.toList 0 (by simp) t h _ hk
      refine ⟨.normal, t', h', fun k' => by rw [e, a1]; rfl, a2, a3, fun ρ a w w0 Q A R hQ => ?_⟩
      refine wp_region ?_
      have := a4 ρ a w w0 Q A R hQ
      rwa [show List.range' 0 ops.toList.length = List.range ops.size by rw [List.range_eq_range']; simp] at this
    | some n =>
      have e0 : comp P nt (.region id ops false) = compComm P nt ops.toList n := by
        show compRegion P nt ops.toList false = _
        simp only [compRegion, hc]
      obtain ⟨j, rfl, hj⟩ := commAt_lt hc
      rw [Nat.zero_add] at e0
      have hj' : j < ops.size := by simpa using hj
      obtain ⟨⟨dst, op, e1, e2, e3, g⟩, ho⟩ : ∃ o, ops[j]? = some o := ⟨ops[j], by simp [hj']⟩
      have ho' : ops.toList[j]? = some ⟨dst, op, e1, e2, e3, g⟩ := by simpa using ho
      cases g with
      | some g =>
        have e : comp P nt (.region id ops false) = .bad := by rw [e0]; simp only [compComm, ho']
        rw [e] at hk; exact Bool.noConfusion hk
      | none =>
        have e : comp P nt (.region id ops false) = .comm (compOpsWith (fun _ => true) P nt ops.toList (compOp P) 0 (ops.toList.take j)) (compCm P op) (dOf nt dst) (compOpsWith (fun _ => true) P nt ops.toList (compOp P) (j + 1) (ops.toList.drop (j + 1))) := by
          rw [e0]; simp only [compComm, ho']
        rw [e] at hk
        obtain ⟨t', h', a1, a2, a3, a4⟩ := comm_region (id := id) (cf_ok htb hE) ho (compCm_ok P _) (k := k) hk
        exact ⟨.normal, t', h', fun k' => by rw [e]; exact a1 k', a2, a3, a4⟩
  | true =>
    cases hd : drawsOk ops.toList with
    | false =>
      have e : comp P nt (.region id ops true) = .bad := by
        show compRegion P nt ops.toList true = .bad
        simp only [compRegion, hd]
      rw [e] at hk; exact Bool.noConfusion hk
    | true =>
      have e0 : comp P nt (.region id ops true) = .draws (compOpsWith (barAt P ops.toList (befs ops.toList [])) P nt ops.toList (compOp P) 0 ops.toList) (chainOf P (barAt P ops.toList (befs ops.toList [])) (befs ops.toList []) ops.toList) := by
        show compRegion P nt ops.toList true = _
        simp only [compRegion, hd]
      cases hc : chainOf P (barAt P ops.toList (befs ops.toList [])) (befs ops.toList []) ops.toList with
      | none =>
        have e : ∀ k', exec tb (compFn P) (n + 1) (comp P nt (.region id ops true)) t h k' = execDr (callF tb (exec tb (compFn P) n) (compFn P)) (compOpsWith (barAt P ops.toList (befs ops.toList [])) P nt ops.toList (compOp P) 0 ops.toList) t h (regK k') := by
          intro k'; rw [e0, hc]; rfl
        rw [e] at hk
        obtain ⟨t', h', a1, a2, a3, a4⟩ := draws_ok hm (cf_ok htb hE) hd hk
        exact ⟨.normal, t', h', fun k' => by rw [e, a1]; rfl, a2, a3, fun ρ a w w0 Q A R hQ => a4 ρ a w w0 id Q A R hQ⟩
      | some cs =>
        obtain ⟨ld, cs⟩ := cs
        have e : ∀ k', exec tb (compFn P) (n + 1) (comp P nt (.region id ops true)) t h k' = execCh (callF tb (exec tb (compFn P) n) (compFn P)) (compOpsWith (barAt P ops.toList (befs ops.toList [])) P nt ops.toList (compOp P) 0 ops.toList) cs t h (regK k') := by
          intro k'; rw [e0, hc]; rfl
        rw [e] at hk
        obtain ⟨t', h', a1, a2, a3, a4⟩ := drawsCh_ok hm (cf_ok htb hE) hd hc _ hk
        exact ⟨.normal, t', h', fun k' => by rw [e, a1]; rfl, a2, a3, fun ρ a w w0 Q A R hQ => a4 ρ a w w0 id Q A R hQ⟩
theorem exec_ok {tb : Nat → Option Sp} {P : Program} (htb : TbOk P tb) (hm : P.follows .mixedOrders = true) : ∀ n, ExOk tb P n ∧ LpOk tb P n := by
  intro n
  induction n with
  | zero => exact ⟨fun nt c t h k hk => Bool.noConfusion hk, fun nt c t h k hk => Bool.noConfusion hk⟩
  | succ n ih =>
    obtain ⟨hE, hL⟩ := ih
    have hLp : LpOk tb P (n + 1) := by
      intro nt c t h k hk
      have e : ∀ k', exec tb (compFn P) (n + 1) (.loop (comp P nt c)) t h k' = exec tb (compFn P) n (comp P nt c) t h (loopK (exec tb (compFn P) n) (comp P nt c) k') := fun _ => rfl
      rw [e] at hk
      obtain ⟨x, t1, h1, a1, a2, a3, a4⟩ := hE nt c t h _ hk
      rw [a1] at hk
      cases x with
      | normal =>
        have e2 : ∀ k', loopK (exec tb (compFn P) n) (comp P nt c) k' .normal t1 h1 = exec tb (compFn P) n (.loop (comp P nt c)) t1 h1 k' := fun _ => rfl
        rw [e2] at hk
        obtain ⟨x2, t2, h2, b1, b2, b3, b4⟩ := hL nt c t1 h1 k hk
        refine ⟨x2, t2, h2, fun k' => by rw [e, a1, e2, b1], KeepF.trans a2 a3 b2, Nat.le_trans a3 b3, fun ρ a w w0 Q A R hQ => ?_⟩
        refine loopArr_of (a4 ρ a w w0 _ A R fun ρ' a' w' l1 A' R' => ?_)
        exact b4 ρ' a' w' w0 Q A' R' fun ρ'' a'' w'' l2 A'' R'' => hQ ρ'' a'' w'' (l1.trans (by rw [← a2.1]; exact l2)) A'' R''
      | exit id =>
        refine ⟨.exit id, t1, h1, fun k' => by rw [e, a1]; rfl, a2, a3, fun ρ a w w0 Q A R hQ => ?_⟩
        exact loopArr_of (a4 ρ a w w0 _ A R fun ρ' a' w' l1 A' R' => hQ ρ' a' w' l1 A' R')
      | ret =>
        refine ⟨.ret, t1, h1, fun k' => by rw [e, a1]; rfl, a2, a3, fun ρ a w w0 Q A R hQ => ?_⟩
        exact loopArr_of (a4 ρ a w w0 _ A R fun ρ' a' w' l1 A' R' => hQ ρ' a' w' l1 A' R')
    refine ⟨fun nt c => ?_, hLp⟩
    induction c with
    | skip => intro t h k hk; exact ⟨.normal, t, h, fun _ => rfl, KeepF.refl h, Nat.le_refl _, fun ρ a w w0 Q A R hQ => wp_skip (hQ ρ a w (Ext.refl _ ρ) A R)⟩
    | label l => intro t h k hk; exact ⟨.normal, t, h, fun _ => rfl, KeepF.refl h, Nat.le_refl _, fun ρ a w w0 Q A R hQ => wp_label (hQ ρ a w (Ext.refl _ ρ) A R)⟩
    | exit id => intro t h k hk; exact ⟨.exit id, t, h, fun _ => rfl, KeepF.refl h, Nat.le_refl _, fun ρ a w w0 Q A R hQ => wp_exit (hQ ρ a w (Ext.refl _ ρ) A R)⟩
    | ret => intro t h k hk; exact ⟨.ret, t, h, fun _ => rfl, KeepF.refl h, Nat.le_refl _, fun ρ a w w0 Q A R hQ => wp_ret (hQ ρ a w (Ext.refl _ ρ) A R)⟩
    | goto l => intro t h k hk; exact Bool.noConfusion hk
    | refuse s => intro t h k hk; exact Bool.noConfusion hk
    | rangeFunc f ps x y ihx ihy => intro t h k hk; exact Bool.noConfusion hk
    | region id ops draw => intro t h k hk; exact region_ok htb hm hE nt id ops draw t h k hk
    | loop c ihc =>
      intro t h k hk
      obtain ⟨x, t', h', a1, a2, a3, a4⟩ := hLp nt c t h k hk
      exact ⟨x, t', h', a1, a2, a3, fun ρ a w w0 Q A R hQ => wp_loop_of (a4 ρ a w w0 Q A R hQ)⟩
    | scope c ihc =>
      intro t h k hk
      obtain ⟨x, t', h', a1, a2, a3, a4⟩ := ihc t h k hk
      refine ⟨x, t', h', a1, a2, a3, fun ρ a w w0 Q A R hQ => wp_scope_straight (a4 ρ a w w0 _ A R fun ρ' a' w' l1 A' R' => ?_)⟩
      have := hQ ρ' a' w' l1 A' R'
      cases x <;> exact this
    | seq c1 c2 ih1 ih2 =>
      intro t h k hk
      have e : ∀ k', exec tb (compFn P) (n + 1) (comp P nt (.seq c1 c2)) t h k' = exec tb (compFn P) n (comp P nt c1) t h (seqK (exec tb (compFn P) n) (comp P nt c2) k') := fun _ => rfl
      rw [e] at hk
      obtain ⟨x, t1, h1, a1, a2, a3, a4⟩ := hE nt c1 t h _ hk
      rw [a1] at hk
      cases x with
      | normal =>
        have e2 : ∀ k', seqK (exec tb (compFn P) n) (comp P nt c2) k' .normal t1 h1 = exec tb (compFn P) n (comp P nt c2) t1 h1 k' := fun _ => rfl
        rw [e2] at hk
        obtain ⟨x2, t2, h2, b1, b2, b3, b4⟩ := hE nt c2 t1 h1 k hk
        refine ⟨x2, t2, h2, fun k' => by rw [e, a1, e2, b1], KeepF.trans a2 a3 b2, Nat.le_trans a3 b3, fun ρ a w w0 Q A R hQ => ?_⟩
        refine wp_seq (a4 ρ a w w0 _ A R fun ρ' a' w' l1 A' R' => ?_)
        exact b4 ρ' a' w' w0 Q A' R' fun ρ'' a'' w'' l2 A'' R'' => hQ ρ'' a'' w'' (l1.trans (by rw [← a2.1]; exact l2)) A'' R''
      | exit id =>
        refine ⟨.exit id, t1, h1, fun k' => by rw [e, a1]; rfl, a2, a3, fun ρ a w w0 Q A R hQ => ?_⟩
        exact wp_seq (a4 ρ a w w0 _ A R fun ρ' a' w' l1 A' R' => hQ ρ' a' w' l1 A' R')
      | ret =>
        refine ⟨.ret, t1, h1, fun k' => by rw [e, a1]; rfl, a2, a3, fun ρ a w w0 Q A R hQ => ?_⟩
        exact wp_seq (a4 ρ a w w0 _ A R fun ρ' a' w' l1 A' R' => hQ ρ' a' w' l1 A' R')
    | cond c c1 c2 ih1 ih2 =>
      intro t h k hk
      have e : ∀ k', exec tb (compFn P) (n + 1) (comp P nt (.cond c c1 c2)) t h k' = oE (compO c) t fun c' => vB c' fun b => condK b (exec tb (compFn P) n) (comp P nt c1) (comp P nt c2) t h k' := fun _ => rfl
      rw [e, oE_eq] at hk
      obtain ⟨b, hb, hk⟩ := vB_ok hk
      have hev : ∀ ρ a, ARel ρ nt t a → a.eval c = .bool b := fun ρ a A => by
        have := opnd_rel A c
        rw [hb] at this; exact this
      cases b with
      | true =>
        have hk' : exec tb (compFn P) n (comp P nt c1) t h k = true := hk
        obtain ⟨x, t1, h1, a1, a2, a3, a4⟩ := hE nt c1 t h k hk'
        exact ⟨x, t1, h1, fun k' => by rw [e, oE_eq, hb, vB_b]; exact a1 k', a2, a3, fun ρ a w w0 Q A R hQ => wp_cond_true (hev ρ a A) (a4 ρ a w w0 Q A R hQ)⟩
      | false =>
        have hk' : exec tb (compFn P) n (comp P nt c2) t h k = true := hk
        obtain ⟨x, t1, h1, a1, a2, a3, a4⟩ := hE nt c2 t h k hk'
        exact ⟨x, t1, h1, fun k' => by rw [e, oE_eq, hb, vB_b]; exact a1 k', a2, a3, fun ρ a w w0 Q A R hQ => wp_cond_false (hev ρ a A) (a4 ρ a w w0 Q A R hQ)⟩
    | block id c ihc =>
      intro t h k hk
      have e : ∀ k', exec tb (compFn P) (n + 1) (comp P nt (.block id c)) t h k' = exec tb (compFn P) n (comp P nt c) t h (blockK id k') := fun _ => rfl
      rw [e] at hk
      obtain ⟨x, t1, h1, a1, a2, a3, a4⟩ := hE nt c t h _ hk
      cases x with
      | normal => exact ⟨.normal, t1, h1, fun k' => by rw [e, a1]; rfl, a2, a3, fun ρ a w w0 Q A R hQ => wp_block (a4 ρ a w w0 _ A R fun ρ' a' w' l1 A' R' => hQ ρ' a' w' l1 A' R')⟩
      | ret => exact ⟨.ret, t1, h1, fun k' => by rw [e, a1]; rfl, a2, a3, fun ρ a w w0 Q A R hQ => wp_block (a4 ρ a w w0 _ A R fun ρ' a' w' l1 A' R' => hQ ρ' a' w' l1 A' R')⟩
      | exit j =>
        have e2 : ∀ k', blockK id k' (.exit j) t1 h1 = blockB (Nat.beq j id) j k' t1 h1 := fun _ => rfl
        cases hj : Nat.beq j id with
        | true =>
          have hji : j = id := Nat.eq_of_beq_eq_true hj
          refine ⟨.normal, t1, h1, fun k' => by rw [e, a1, e2, hj]; rfl, a2, a3, fun ρ a w w0 Q A R hQ => wp_block (a4 ρ a w w0 _ A R fun ρ' a' w' l1 A' R' => ?_)⟩
          show (if j = id then Q .normal a' w' else Q (.exit j) a' w')
          rw [if_pos hji]; exact hQ ρ' a' w' l1 A' R'
        | false =>
          have hji : ¬ j = id := fun h => by rw [h] at hj; simp at hj
          refine ⟨.exit j, t1, h1, fun k' => by rw [e, a1, e2, hj]; rfl, a2, a3, fun ρ a w w0 Q A R hQ => wp_block (a4 ρ a w w0 _ A R fun ρ' a' w' l1 A' R' => ?_)⟩
          show (if j = id then Q .normal a' w' else Q (.exit j) a' w')
          rw [if_neg hji]; exact hQ ρ' a' w' l1 A' R'
def noEmb : Emb := fun _ _ => none
theorem zero_rel0 (w : World) : HRel noEmb H.zero w w :=
  ⟨fun _ _ _ h => (by cases h), fun _ _ _ h => (by cases h), fun _ _ _ _ _ _ h => (by cases h), Nat.le_refl _, fun _ _ => rfl, fun _ _ _ h => (by cases h), rfl, rfl, rfl, Nat.le_refl _, fun _ _ _ h => (by cases h), fun _ _ _ _ _ h => (by cases h)⟩
theorem HRel.same {ρ : Emb} {h : H} {w w0 : World} (R : HRel ρ h w w0) : Same w0 w := ⟨R.old, R.siz, R.tp, R.os, R.out⟩
theorem Same.below {w w' : World} (R : Same w w') : RowKit.Below w.heap.size w w' := ⟨R.2.2.2.1, R.2.2.1, R.2.2.2.2, R.2.1, R.1⟩
/-- WHAT A RUN SAYS: where the evaluator comes to 'true', so does the model's call, whatever the world, and of what was there nothing turns. -/
theorem runs {tb : Nat → Option Sp} {P : Program} (htb : TbOk P tb) (hm : P.follows .mixedOrders = true) {n : Nat} {f : FuncId} {vs : List V} (h : runFn tb P n f vs = true) {args : List Value} (ha : LRel noEmb vs args) (w : World) :
    (callFunc f args.toArray).run P w = .ok (.enter f args.toArray) w ∧ Calls P f args.toArray w fun e w' => e = .returned (.bool true) ∧ Same w w' := by
  obtain ⟨v, h', h1, h2, h3, h4⟩ := cf_ok htb (exec_ok htb hm n).1 f vs H.zero isTrue h
  have ht : isTrue v h' = true := by
    have := h1 isTrue
    rw [← this]; exact h
  obtain ⟨b, hb, hbt⟩ := vB_ok ht
  obtain ⟨c1, c2⟩ := h4 noEmb w w args ha (zero_rel0 w)
  refine ⟨c1, c2.mono fun e w' he => ?_⟩
  obtain ⟨x, rfl, ρ', _, x2, x3⟩ := he
  rw [hb] at x2
  have x2' : x = .bool b := x2
  rw [x2', hbt]
  exact ⟨rfl, x3.same⟩
theorem noTb_ok (P : Program) : TbOk P noTb := fun _ _ h => by cases h
/-- a function without parameters that was run once need not be run again -/
theorem pure_of {tb : Nat → Option Sp} {P : Program} (htb : TbOk P tb) (hm : P.follows .mixedOrders = true) {n : Nat} {f : FuncId} (h : runFn tb P n f [] = true) : PureTrue P f :=
  fun w => runs htb hm h (args := []) trivial w
end Go.Ev

set_option linter.all false
namespace Go.Ev
open Go
section
open Go.RowKit Go.WideShapes Go.ChangeShapes
variable {H : Type} {enc : TypeId × Value → H} {P : Program}
/-- THE ROW's LAST STEP, where of what was there nothing turned (new blocks may be frozen). -/
theorem post_kept {f : Func} {s : ChangeSpec} {apart fresh handsOn again : Bool} {W W' : World} {args : Array Value} {v : Value} {ds gs : List (DataW H)} {before pa pv : List MemPlace} (hb : Below W.heap.size W W')
    (hW : DataW.Whole enc P f.params.toList s.vars apart W args.toList ds gs before)
    (hres : ∀ (b : Nat) (sp : Nat → Bool) (hd : Bool), DataW.TrodAll enc P W' b sp hd f.resultTypes.toList (v.resultList f.resultTypes.size) (s.fn H (ds ++ gs)).results [])
    (hargs : ∀ sp : Nat → Bool, (∀ p ∈ before, sp p.block = true) → DataW.TrodAll enc P W' 0 sp true f.params.toList args.toList (s.fn H (ds ++ gs)).args pa)
    (hvars : ∀ sp : Nat → Bool, (∀ p ∈ before, sp p.block = true) → DataW.TrodVars enc P W' sp s.vars (s.fn H (ds ++ gs)).vars pv)
    (hps : before = pa ++ pv)
    (hok : ∀ (j : Nat) (t : TypeId) (r : Value), f.resultTypes[j]? = some t → (v.resultList f.resultTypes.size)[j]? = some r → Value.okWide P W' .any 0 t r) :
    s.post enc P f apart fresh handsOn again W args v W' := by
  have hlt := fun p hp => hW.lt p hp
  have hin : ∀ p ∈ before, (fun b => decide (b < W.heap.size)) p.block = true := fun p hp => decide_eq_true (hlt p hp)
  have hkept := hb.frame (· ∈ before)
  refine ⟨ds, gs, before, [], pa, pv, hW, hres _ _ _, hargs _ hin, hvars _ hin, World.keptBut_mono (fun p hp => ⟨hp, ?_⟩) hkept, fun _ => ?_⟩
  · have := hps ▸ hp
    exact .inr (List.mem_append.1 this)
  · obtain ⟨_, _, _, _, _, hz, hn⟩ := hW
    refine ⟨hok, _, _, ([] ++ pa) ++ pv, ⟨[] ++ pa, pv, trodAll_append (hargs _ fun _ _ => rfl) (hres _ _ _), hvars _ fun _ _ => rfl, rfl, fun b off hp => ?_, fun ha => ?_⟩, fun p hp _ => ?_⟩
    · have hp' : MemPlace.cell b off ∈ before := by rw [hps]; simpa using hp
      rw [hb.frozen (hlt _ hp')]
      exact hz b off hp'
    · have hn' := hn ha
      rw [hps] at hn'
      simpa using hn'
    · rw [hps]; simpa using hp
end
end Go.Ev

set_option linter.all false
namespace Go.Ev
open Go
noncomputable def put (n : Nat) (v : V) (t : F) : F := Classical.choose (sPut_ok (slOf n) v t)
noncomputable def get (n : Nat) (t : F) : V := sGet (slOf n) t
theorem sPut_put (n : Nat) (v : V) (t : F) (k : F → Bool) : sPut (slOf n) v t k = k (put n v t) := (Classical.choose_spec (sPut_ok (slOf n) v t)).1 k
theorem get_put (n m : Nat) (v : V) (t : F) (hn : n < 512) (hm : m < 512) : get n (put m v t) = if n = m then v else get n t := by
  have h := Classical.choose_spec (sPut_ok (slOf m) v t)
  by_cases e : n = m
  · subst e; rw [if_pos rfl]; exact h.2.1
  · rw [if_neg e]; exact h.2.2 _ fun he => e (slOf_inj hn hm he)
noncomputable def slotsF : List V → Nat → F → F
  | [], _, t => t
  | v :: vs, n, t => slotsF vs (n + 1) (put n v t)
theorem slots_slotsF : ∀ (vs : List V) (n : Nat) (t : F) (k : F → Bool), slots vs n t k = k (slotsF vs n t)
  | [], _, _, _ => rfl
  | v :: vs, n, t, k => by
    have e : slots (v :: vs) n t k = sPut (slOf n) v t fun t => slots vs (n + 1) t k := rfl
    rw [e, sPut_put, slots_slotsF vs]; rfl
abbrev tm (n : Nat) : O := .t (slOf n)
theorem oV_t (n : Nat) (t : F) : oV (.t (slOf n)) t = get n t := rfl
theorem oV_c (v : V) (t : F) : oV (.c v) t = v := rfl
def Steps (P : Program) (nt : Nat) (c : Code) (t : F) (h : H) (x : X) (t' : F) (h' : H) : Prop := KeepF h h' ∧ B.val h.next ≤ B.val h'.next ∧ CodeSound P nt c t h x t' h'
/-- the code that is compiled as 'cc' comes, from that state, to one of which K holds -/
def Ok (P : Program) (nt : Nat) (cc : CC) (t : F) (h : H) (K : X → F → H → Prop) : Prop := ∃ x t' h', (∀ c, comp P nt c = cc → Steps P nt c t h x t' h') ∧ K x t' h'
theorem Ok.mono {P : Program} {nt : Nat} {cc : CC} {t : F} {h : H} {K K' : X → F → H → Prop} (a : Ok P nt cc t h K) (hk : ∀ x t h, K x t h → K' x t h) : Ok P nt cc t h K' := by
  obtain ⟨x, t', h', a1, a2⟩ := a
  exact ⟨x, t', h', a1, hk _ _ _ a2⟩
theorem Steps.scope {P : Program} {nt : Nat} {c : Code} {t : F} {h : H} {x : X} {t' : F} {h' : H} (a : Steps P nt c t h x t' h') : Steps P nt (.scope c) t h x t' h' := by
  obtain ⟨a2, a3, a4⟩ := a
  refine ⟨a2, a3, fun ρ a w w0 Q A R hQ => wp_scope_straight (a4 ρ a w w0 _ A R fun ρ' a' w' l1 A' R' => ?_)⟩
  have := hQ ρ' a' w' l1 A' R'
  cases x <;> exact this
theorem Steps.trans {P : Program} {nt : Nat} {c1 c2 : Code} {t t1 t2 : F} {h h1 h2 : H} {x : X} (a : Steps P nt c1 t h .normal t1 h1) (b : Steps P nt c2 t1 h1 x t2 h2) : Steps P nt (.seq c1 c2) t h x t2 h2 := by
  obtain ⟨a2, a3, a4⟩ := a
  obtain ⟨b2, b3, b4⟩ := b
  refine ⟨KeepF.trans a2 a3 b2, Nat.le_trans a3 b3, fun ρ a w w0 Q A R hQ => ?_⟩
  refine wp_seq (a4 ρ a w w0 _ A R fun ρ' a' w' l1 A' R' => ?_)
  exact b4 ρ' a' w' w0 Q A' R' fun ρ'' a'' w'' l2 A'' R'' => hQ ρ'' a'' w'' (l1.trans (by rw [← a2.1]; exact l2)) A'' R''
/-- what is compiled so is code of that kind, but for scopes -/
theorem by_scopes {P : Program} {nt : Nat} {t : F} {h : H} {x : X} {t' : F} {h' : H} (cc : CC)
    (base : ∀ c, comp P nt c = cc → (∀ d, c ≠ .scope d) → Steps P nt c t h x t' h') : ∀ c, comp P nt c = cc → Steps P nt c t h x t' h' := by
  intro c
  induction c with
  | scope d ih => intro e; exact (ih e).scope
  | _ => intro e; exact base _ e (fun d hd => by cases hd)
section
variable {P : Program} {nt : Nat} {t : F} {h : H} {K : X → F → H → Prop}
theorem Ok.skip (k : K .normal t h) : Ok P nt .skip t h K := by
  refine ⟨.normal, t, h, by_scopes _ fun c e hs => ?_, k⟩
  have r : ∀ c, (c = .skip ∨ ∃ l, c = .label l) → Steps P nt c t h .normal t h := by
    rintro c (rfl | ⟨l, rfl⟩)
    · exact ⟨KeepF.refl h, Nat.le_refl _, fun ρ a w w0 Q A R hQ => wp_skip (hQ ρ a w (Ext.refl _ ρ) A R)⟩
    · exact ⟨KeepF.refl h, Nat.le_refl _, fun ρ a w w0 Q A R hQ => wp_label (hQ ρ a w (Ext.refl _ ρ) A R)⟩
  cases c with
  | skip => exact r _ (.inl rfl)
  | label l => exact r _ (.inr ⟨l, rfl⟩)
  | scope d => exact absurd rfl (hs d)
  | region id ops draw =>
    have e' : compRegion P nt ops.toList draw = .skip := e
    exact (reg_no e' rfl).elim
  | _ => cases e
theorem Ok.exit {id : Nat} (k : K (.exit id) t h) : Ok P nt (.exit id) t h K := by
  refine ⟨.exit id, t, h, by_scopes _ fun c e hs => ?_, k⟩
  cases c with
  | exit j => cases e; exact ⟨KeepF.refl h, Nat.le_refl _, fun ρ a w w0 Q A R hQ => wp_exit (hQ ρ a w (Ext.refl _ ρ) A R)⟩
  | scope d => exact absurd rfl (hs d)
  | region id ops draw =>
    have e' : compRegion P nt ops.toList draw = .exit _ := e
    exact (reg_no e' rfl).elim
  | _ => cases e
theorem Ok.ret (k : K .ret t h) : Ok P nt .ret t h K := by
  refine ⟨.ret, t, h, by_scopes _ fun c e hs => ?_, k⟩
  cases c with
  | ret => exact ⟨KeepF.refl h, Nat.le_refl _, fun ρ a w w0 Q A R hQ => wp_ret (hQ ρ a w (Ext.refl _ ρ) A R)⟩
  | scope d => exact absurd rfl (hs d)
  | region id ops draw =>
    have e' : compRegion P nt ops.toList draw = .ret := e
    exact (reg_no e' rfl).elim
  | _ => cases e
/-- behind the first part -/
def Then (K' : F → H → Prop) (K : X → F → H → Prop) : X → F → H → Prop
  | .normal, t, h => K' t h
  | x, t, h => K x t h
theorem Ok.seq {a b : CC} (k : Ok P nt a t h (Then (fun t h => Ok P nt b t h K) K)) : Ok P nt (.seq a b) t h K := by
  obtain ⟨x, t1, h1, a1, a2⟩ := k
  have inv : ∀ c, comp P nt c = .seq a b → (∀ d, c ≠ .scope d) → ∃ c1 c2, c = .seq c1 c2 ∧ comp P nt c1 = a ∧ comp P nt c2 = b := by
    intro c e hs
    cases c with
    | seq c1 c2 => cases e; exact ⟨c1, c2, rfl, rfl, rfl⟩
    | scope d => exact absurd rfl (hs d)
    | region id ops draw =>
      have e' : compRegion P nt ops.toList draw = .seq a b := e
      exact (reg_no e' rfl).elim
    | _ => cases e
  cases x with
  | normal =>
    obtain ⟨x2, t2, h2, b1, b2⟩ := a2
    refine ⟨x2, t2, h2, by_scopes _ fun c e hs => ?_, b2⟩
    obtain ⟨c1, c2, rfl, e1, e2⟩ := inv c e hs
    exact (a1 c1 e1).trans (b1 c2 e2)
  | exit id =>
    refine ⟨_, t1, h1, by_scopes _ fun c e hs => ?_, a2⟩
    obtain ⟨c1, c2, rfl, e1, e2⟩ := inv c e hs
    obtain ⟨s1, s2, s3⟩ := a1 c1 e1
    exact ⟨s1, s2, fun ρ a w w0 Q A R hQ => wp_seq (s3 ρ a w w0 _ A R fun ρ' a' w' l1 A' R' => hQ ρ' a' w' l1 A' R')⟩
  | ret =>
    refine ⟨_, t1, h1, by_scopes _ fun c e hs => ?_, a2⟩
    obtain ⟨c1, c2, rfl, e1, e2⟩ := inv c e hs
    obtain ⟨s1, s2, s3⟩ := a1 c1 e1
    exact ⟨s1, s2, fun ρ a w w0 Q A R hQ => wp_seq (s3 ρ a w w0 _ A R fun ρ' a' w' l1 A' R' => hQ ρ' a' w' l1 A' R')⟩
theorem Ok.cond {o : O} {a b : CC} {q : Bool} (hq : oV o t = .b q) (ha : q = true → Ok P nt a t h K) (hb : q = false → Ok P nt b t h K) : Ok P nt (.cond o a b) t h K := by
  have inv : ∀ c, comp P nt c = .cond o a b → (∀ d, c ≠ .scope d) → ∃ x c1 c2, c = .cond x c1 c2 ∧ compO x = o ∧ comp P nt c1 = a ∧ comp P nt c2 = b := by
    intro c e hs
    cases c with
    | cond x c1 c2 => cases e; exact ⟨x, c1, c2, rfl, rfl, rfl, rfl⟩
    | scope d => exact absurd rfl (hs d)
    | region id ops draw =>
      have e' : compRegion P nt ops.toList draw = .cond o a b := e
      exact (reg_no e' rfl).elim
    | _ => cases e
  have hev : ∀ x, compO x = o → ∀ ρ a, ARel ρ nt t a → a.eval x = .bool q := fun x hx ρ a A => by
    have := opnd_rel A x
    rw [hx, hq] at this; exact this
  cases q with
  | true =>
    obtain ⟨x, t1, h1, a1, a2⟩ := ha rfl
    refine ⟨x, t1, h1, by_scopes _ fun c e hs => ?_, a2⟩
    obtain ⟨y, c1, c2, rfl, e0, e1, e2⟩ := inv c e hs
    obtain ⟨s1, s2, s3⟩ := a1 c1 e1
    exact ⟨s1, s2, fun ρ a w w0 Q A R hQ => wp_cond_true (hev y e0 ρ a A) (s3 ρ a w w0 Q A R hQ)⟩
  | false =>
    obtain ⟨x, t1, h1, a1, a2⟩ := hb rfl
    refine ⟨x, t1, h1, by_scopes _ fun c e hs => ?_, a2⟩
    obtain ⟨y, c1, c2, rfl, e0, e1, e2⟩ := inv c e hs
    obtain ⟨s1, s2, s3⟩ := a1 c2 e2
    exact ⟨s1, s2, fun ρ a w w0 Q A R hQ => wp_cond_false (hev y e0 ρ a A) (s3 ρ a w w0 Q A R hQ)⟩
/-- out of a block -/
def Out (id : Nat) (K : X → F → H → Prop) : X → F → H → Prop
  | .exit j, t, h => if j = id then K .normal t h else K (.exit j) t h
  | x, t, h => K x t h
theorem Ok.block {id : Nat} {a : CC} (k : Ok P nt a t h (Out id K)) : Ok P nt (.block id a) t h K := by
  obtain ⟨x, t1, h1, a1, a2⟩ := k
  have inv : ∀ c, comp P nt c = .block id a → (∀ d, c ≠ .scope d) → ∃ c1, c = .block id c1 ∧ comp P nt c1 = a := by
    intro c e hs
    cases c with
    | block j c1 => cases e; exact ⟨c1, rfl, rfl⟩
    | scope d => exact absurd rfl (hs d)
    | region id ops draw =>
      have e' : compRegion P nt ops.toList draw = .block _ a := e
      exact (reg_no e' rfl).elim
    | _ => cases e
  cases x with
  | normal =>
    refine ⟨_, t1, h1, by_scopes _ fun c e hs => ?_, a2⟩
    obtain ⟨c1, rfl, e1⟩ := inv c e hs
    obtain ⟨s1, s2, s3⟩ := a1 c1 e1
    exact ⟨s1, s2, fun ρ a w w0 Q A R hQ => wp_block (s3 ρ a w w0 _ A R fun ρ' a' w' l1 A' R' => hQ ρ' a' w' l1 A' R')⟩
  | ret =>
    refine ⟨_, t1, h1, by_scopes _ fun c e hs => ?_, a2⟩
    obtain ⟨c1, rfl, e1⟩ := inv c e hs
    obtain ⟨s1, s2, s3⟩ := a1 c1 e1
    exact ⟨s1, s2, fun ρ a w w0 Q A R hQ => wp_block (s3 ρ a w w0 _ A R fun ρ' a' w' l1 A' R' => hQ ρ' a' w' l1 A' R')⟩
  | exit j =>
    by_cases hj : j = id
    · have a2' : K .normal t1 h1 := by
        have : (if j = id then K .normal t1 h1 else K (.exit j) t1 h1) := a2
        rwa [if_pos hj] at this
      refine ⟨_, t1, h1, by_scopes _ fun c e hs => ?_, a2'⟩
      obtain ⟨c1, rfl, e1⟩ := inv c e hs
      obtain ⟨s1, s2, s3⟩ := a1 c1 e1
      refine ⟨s1, s2, fun ρ a w w0 Q A R hQ => wp_block (s3 ρ a w w0 _ A R fun ρ' a' w' l1 A' R' => ?_)⟩
      show (if j = id then Q .normal a' w' else Q (.exit j) a' w')
      rw [if_pos hj]; exact hQ ρ' a' w' l1 A' R'
    · have a2' : K (.exit j) t1 h1 := by
        have : (if j = id then K .normal t1 h1 else K (.exit j) t1 h1) := a2
        rwa [if_neg hj] at this
      refine ⟨_, t1, h1, by_scopes _ fun c e hs => ?_, a2'⟩
      obtain ⟨c1, rfl, e1⟩ := inv c e hs
      obtain ⟨s1, s2, s3⟩ := a1 c1 e1
      refine ⟨s1, s2, fun ρ a w w0 Q A R hQ => wp_block (s3 ρ a w w0 _ A R fun ρ' a' w' l1 A' R' => ?_)⟩
      show (if j = id then Q .normal a' w' else Q (.exit j) a' w')
      rw [if_neg hj]; exact hQ ρ' a' w' l1 A' R'
end
/-- a loop: 'Inv m' holds at each round's head, and m falls -/
theorem Ok.loop {P : Program} {nt : Nat} {a : CC} {K : X → F → H → Prop} (Inv : Nat → F → H → Prop)
    (round : ∀ m t h, Inv m t h → Ok P nt a t h (Then (fun t' h' => ∃ m', m' < m ∧ Inv m' t' h') K)) : ∀ m t h, Inv m t h → Ok P nt (.loop a) t h K := by
  have inv : ∀ c, comp P nt c = .loop a → (∀ d, c ≠ .scope d) → ∃ c1, c = .loop c1 ∧ comp P nt c1 = a := by
    intro c e hs
    cases c with
    | loop c1 => cases e; exact ⟨c1, rfl, rfl⟩
    | scope d => exact absurd rfl (hs d)
    | region id ops draw =>
      have e' : compRegion P nt ops.toList draw = .loop a := e
      exact (reg_no e' rfl).elim
    | _ => cases e
  have main : ∀ n m t h, m ≤ n → Inv m t h → ∃ x t' h', (∀ c, comp P nt c = a → KeepF h h' ∧ B.val h.next ≤ B.val h'.next ∧ LoopSound P nt c t h x t' h') ∧ K x t' h' := by
    intro n
    induction n with
    | zero =>
      intro m t h hm hI
      obtain ⟨x, t1, h1, a1, a2⟩ := round m t h hI
      cases x with
      | normal => obtain ⟨m', hm', _⟩ := a2; omega
      | exit id => exact ⟨_, t1, h1, fun c e => ⟨(a1 c e).1, (a1 c e).2.1, fun ρ a w w0 Q A R hQ => loopArr_of ((a1 c e).2.2 ρ a w w0 _ A R fun ρ' a' w' l1 A' R' => hQ ρ' a' w' l1 A' R')⟩, a2⟩
      | ret => exact ⟨_, t1, h1, fun c e => ⟨(a1 c e).1, (a1 c e).2.1, fun ρ a w w0 Q A R hQ => loopArr_of ((a1 c e).2.2 ρ a w w0 _ A R fun ρ' a' w' l1 A' R' => hQ ρ' a' w' l1 A' R')⟩, a2⟩
    | succ n ih =>
      intro m t h hm hI
      obtain ⟨x, t1, h1, a1, a2⟩ := round m t h hI
      cases x with
      | normal =>
        obtain ⟨m', hm', hI'⟩ := a2
        obtain ⟨x2, t2, h2, b1, b2⟩ := ih m' t1 h1 (by omega) hI'
        refine ⟨x2, t2, h2, fun c e => ?_, b2⟩
        obtain ⟨s1, s2, s3⟩ := a1 c e
        obtain ⟨r1, r2, r3⟩ := b1 c e
        refine ⟨KeepF.trans s1 s2 r1, Nat.le_trans s2 r2, fun ρ a w w0 Q A R hQ => ?_⟩
        refine loopArr_of (s3 ρ a w w0 _ A R fun ρ' a' w' l1 A' R' => ?_)
        exact r3 ρ' a' w' w0 Q A' R' fun ρ'' a'' w'' l2 A'' R'' => hQ ρ'' a'' w'' (l1.trans (by rw [← s1.1]; exact l2)) A'' R''
      | exit id => exact ⟨_, t1, h1, fun c e => ⟨(a1 c e).1, (a1 c e).2.1, fun ρ a w w0 Q A R hQ => loopArr_of ((a1 c e).2.2 ρ a w w0 _ A R fun ρ' a' w' l1 A' R' => hQ ρ' a' w' l1 A' R')⟩, a2⟩
      | ret => exact ⟨_, t1, h1, fun c e => ⟨(a1 c e).1, (a1 c e).2.1, fun ρ a w w0 Q A R hQ => loopArr_of ((a1 c e).2.2 ρ a w w0 _ A R fun ρ' a' w' l1 A' R' => hQ ρ' a' w' l1 A' R')⟩, a2⟩
  intro m t h hI
  obtain ⟨x, t', h', a1, a2⟩ := main m m t h (Nat.le_refl _) hI
  refine ⟨x, t', h', by_scopes _ fun c e hs => ?_, a2⟩
  obtain ⟨c1, rfl, e1⟩ := inv c e hs
  obtain ⟨s1, s2, s3⟩ := a1 c1 e1
  exact ⟨s1, s2, fun ρ a w w0 Q A R hQ => wp_loop_of (s3 ρ a w w0 Q A R hQ)⟩
def FnRes (P : Program) (f : FuncId) (vs : List V) (h : H) (v : V) (h' : H) : Prop := KeepF h h' ∧ B.val h.next ≤ B.val h'.next ∧
  ∀ ρ w w0 args, LRel ρ vs args → HRel ρ h w w0 →
    (callFunc f args.toArray).run P w = .ok (.enter f args.toArray) w ∧ Calls P f args.toArray w fun e w' => ∃ x, e = .returned x ∧ Done h.floor ρ w0 v h' x w'
def FnOk (P : Program) (f : FuncId) (vs : List V) (h : H) (K : V → H → Prop) : Prop := ∃ v h', FnRes P f vs h v h' ∧ K v h'
theorem FnOk.mono {P : Program} {f : FuncId} {vs : List V} {h : H} {K K' : V → H → Prop} (a : FnOk P f vs h K) (hk : ∀ v h, K v h → K' v h) : FnOk P f vs h K' := by
  obtain ⟨v, h', a1, a2⟩ := a
  exact ⟨v, h', a1, hk _ _ a2⟩
abbrev Spec := FuncId → List V → H → V → H → Prop
open Classical in
/-- calls by their specifications -/
noncomputable def cfS (P : Program) (S : Spec) : CallF := fun f vs h k => if e : ∃ r : V × H, FnRes P f vs h r.1 r.2 ∧ S f vs h r.1 r.2 then k (Classical.choose e).1 (Classical.choose e).2 else false
theorem cfS_ok (P : Program) (S : Spec) : CfOk P (cfS P S) := by
  intro f vs h k hk
  unfold cfS at hk
  split at hk
  · rename_i e
    have := (Classical.choose_spec e).1
    refine ⟨_, _, fun k' => ?_, this.1, this.2.1, this.2.2⟩
    · unfold cfS; rw [dif_pos e]
  · cases hk
/-- a call: what comes of it is one value, one state, of which the specification holds -/
theorem cfS_call {P : Program} {S : Spec} {f : FuncId} {vs : List V} {h : H} (a : FnOk P f vs h (S f vs h)) : ∃ v h', (∀ k, cfS P S f vs h k = k v h') ∧ S f vs h v h' := by
  have e : ∃ r : V × H, FnRes P f vs h r.1 r.2 ∧ S f vs h r.1 r.2 := by
    obtain ⟨v, h', a1, a2⟩ := a
    exact ⟨(v, h'), a1, a2⟩
  exact ⟨_, _, fun k => by unfold cfS; rw [dif_pos e], (Classical.choose_spec e).2⟩
section
variable {P : Program} {nt : Nat} {t : F} {h : H} {K : X → F → H → Prop}
theorem Ok.region {S : Spec} {ops : List CO} {t' : F} {h' : H} (e : ∀ k : F → H → Bool, execOps (cfS P S) ops t h k = k t' h') (k : K .normal t' h') : Ok P nt (.region ops) t h K := by
  refine ⟨.normal, t', h', by_scopes _ fun c e' hs => ?_, k⟩
  cases c with
  | region id os draw =>
    have e1 : compRegion P nt os.toList draw = .region ops := e'
    obtain ⟨rfl, rfl⟩ := reg_is e1
    obtain ⟨t1, h1, a1, a2, a3, a4⟩ := ops_ok (cfS_ok P S) (fun _ => true) os.toList 0 (by simp) t h (fun _ _ => true) (e _)
    have hth : t1 = t' ∧ h1 = h' := by
      have := (a1 fun t2 h2 => @decide (t2 = t1 ∧ h2 = h1) (Classical.propDecidable _))
      rw [e] at this
      simp at this
      exact ⟨this.1.symm, this.2.symm⟩
    obtain ⟨rfl, rfl⟩ := hth
    refine ⟨a2, a3, fun ρ a w w0 Q A R hQ => wp_region ?_⟩
    have := a4 ρ a w w0 Q A R hQ
    rwa [show List.range' 0 os.toList.length = List.range os.size by rw [List.range_eq_range']; simp] at this
  | scope d => exact absurd rfl (hs d)
  | _ => cases e'
theorem Ok.draws {S : Spec} (hm : P.follows .mixedOrders = true) {ops : List CO} {ch : Option (List Nat × List (Nat × List Nat))} {t' : F} {h' : H} (e : ∀ k : F → H → Bool, execDr (cfS P S) ops t h k = k t' h') (k : K .normal t' h') : Ok P nt (.draws ops ch) t h K := by
  refine ⟨.normal, t', h', by_scopes _ fun c e' hs => ?_, k⟩
  cases c with
  | region id os draw =>
    have e1 : compRegion P nt os.toList draw = .draws ops ch := e'
    obtain ⟨rfl, hd, e1⟩ := reg_dr e1
    cases e1
    obtain ⟨t1, h1, a1, a2, a3, a4⟩ := draws_ok hm (cfS_ok P S) hd (e fun _ _ => true)
    have hth : t1 = t' ∧ h1 = h' := by
      have := (a1 fun t2 h2 => @decide (t2 = t1 ∧ h2 = h1) (Classical.propDecidable _))
      rw [e] at this
      simp at this
      exact ⟨this.1.symm, this.2.symm⟩
    obtain ⟨rfl, rfl⟩ := hth
    exact ⟨a2, a3, fun ρ a w w0 Q A R hQ => a4 ρ a w w0 id Q A R hQ⟩
  | scope d => exact absurd rfl (hs d)
  | _ => cases e'
end
/-- A FUNCTION: its body from its arguments on -/
theorem fn_ok {P : Program} {f : FuncId} {fn : Func} {body : Code} {cc : CC} {rs : List Rs} {vs : List V} {h : H} {K : V → H → Prop} (hfn : P.funcs.toList[f]? = some fn) (hb : fn.body = some body) (hnm : (fn.name == "runtime.NumGoroutine") = false)
    (hcc : comp P fn.ntmps body = cc) (hrs : fn.results.toList.map (rsOf P) = rs) (hl1 : vs.length ≤ fn.ntmps) (hl2 : vs.length ≤ 512)
    (ok : Ok P fn.ntmps cc (slotsF vs 0 F.zero) h fun x t' h' => match x with
      | .exit _ => False
      | _ => ∃ us, (∀ k : List V → Bool, resK rs t' h' k = k us) ∧ K (one us) h') : FnOk P f vs h K := by
  obtain ⟨x, t', h', s, k⟩ := ok
  obtain ⟨x2, x3, x4⟩ := s body hcc
  have hfn' : P.funcs[f]? = some fn := by simpa using hfn
  have hx : (x = .normal ∨ x = .ret) ∧ ∃ us, (∀ k : List V → Bool, resK rs t' h' k = k us) ∧ K (one us) h' := by
    cases x with
    | exit id => exact k.elim
    | normal => exact ⟨.inl rfl, k⟩
    | ret => exact ⟨.inr rfl, k⟩
  obtain ⟨r2, us, r1, kk⟩ := hx
  obtain ⟨us', q1, q2⟩ := results_ok (nt := fn.ntmps) (fn := fn) (P := P) (t := t') (h := h') (k := fun _ => true) (by rw [hrs, r1])
  have hus : us' = us := by
    have := q1 fun u => @decide (u = us') (Classical.propDecidable _)
    rw [hrs, r1] at this
    simp at this
    exact this.symm
  subst hus
  refine ⟨one us', h', ⟨x2, x3, fun ρ w w0 args hargs R => ?_⟩, kk⟩
  have hal := hargs.length
  obtain ⟨t0, s1, s2, s3⟩ := slots_ok vs 0 F.zero (fun _ => true) (by omega)
  have ht0 : t0 = slotsF vs 0 F.zero := by
    have := s1 fun u => @decide (u = t0) (Classical.propDecidable _)
    rw [slots_slotsF] at this
    simp at this
    exact this.symm
  constructor
  · have hp : (program : Sem Program).run P w = .ok P w := rfl
    unfold callFunc
    simp only [Sem.run_bind, hp, Result.andThen_ok, hfn', hnm, Bool.false_eq_true, if_false, hb, Option.isNone_some]
    rfl
  · refine calls_of_wp hfn' hb ?_
    have A0 : ARel ρ fn.ntmps t0 { tmps := args.toArray ++ Array.replicate (fn.ntmps - args.toArray.size) undef, defers := [] } := by
      refine ⟨rfl, by simp; omega, fun m hm => ?_⟩
      by_cases hmv : m < vs.length
      · have hv : vs[m]? = some (vs[m]'hmv) := by simp
        obtain ⟨y, y1, y2⟩ := hargs.get hv
        have := s2 m _ hv
        rw [Nat.zero_add] at this
        rw [this]
        have hy : (args.toArray ++ Array.replicate (fn.ntmps - args.toArray.size) undef).getD m undef = y := by
          have hma : m < args.length := by omega
          rw [Array.getD_eq_getD_getElem?, Array.getElem?_append_left (by simpa using hma)]
          simp [y1]
        rw [hy]; exact y2
      · rw [s3 m hm (.inr (by omega)), zero_slot]; trivial
    rw [ht0] at A0
    refine x4 ρ _ w w0 _ A0 R fun ρ' a' w' hle A' R' => ?_
    obtain ⟨y, y1, y2⟩ := q2 ρ' a' w' w0 A' R'
    rcases r2 with rfl | rfl
    · exact ⟨A'.defers, y, y2, y, rfl, ρ', hle, y1, R'⟩
    · exact ⟨A'.defers, y, y2, y, rfl, ρ', hle, y1, R'⟩
/-- a function that the evaluator ran -/
theorem FnOk.of_pure {P : Program} {f : FuncId} (p : PureTrue P f) (h : H) : FnOk P f [] h fun v h' => v = .b true ∧ h' = h := by
  refine ⟨.b true, h, ⟨KeepF.refl h, Nat.le_refl _, fun ρ w w0 args hargs R => ?_⟩, rfl, rfl⟩
  have ha : args = [] := by cases args <;> first | rfl | exact hargs.elim
  subst ha
  obtain ⟨p1, p2⟩ := p w
  refine ⟨p1, p2.mono fun e w' he => ?_⟩
  obtain ⟨rfl, s1, s2, s3, s4, s5⟩ := he
  exact ⟨_, rfl, ρ, Ext.refl _ ρ, rfl, R.grow s1 s2 s3 s4 s5⟩
end Go.Ev

set_option linter.all false
namespace Go.Ev
open Go
structure Ops (P : Program) (S : Spec) (l : List CO) (t : F) (h : H) (K : F → H → Prop) : Prop where
  run : ∃ t' h', (∀ k, execOps (cfS P S) l t h k = k t' h') ∧ K t' h'
structure Drs (P : Program) (S : Spec) (l : List CO) (t : F) (h : H) (K : F → H → Prop) : Prop where
  run : ∃ t' h', (∀ k, execDr (cfS P S) l t h k = k t' h') ∧ K t' h'
section
variable {P : Program} {S : Spec} {nt : Nat} {l : List CO} {t : F} {h : H} {K : F → H → Prop}
theorem Ok.ops {K : X → F → H → Prop} (k : Ops P S l t h (K .normal)) : Ok P nt (.region l) t h K := by
  obtain ⟨t', h', a1, a2⟩ := k
  exact Ok.region a1 a2
theorem Ops.nil (k : K t h) : Ops P S [] t h K := ⟨t, h, fun _ => rfl, k⟩
theorem Drs.nil (k : K t h) : Drs P S [] t h K := ⟨t, h, fun _ => rfl, k⟩
theorem Ops.op {n : Nat} {b : Bool} {r : Run} {v : V} {h1 : H} (e : ∀ k, r (cfS P S) t h k = k v h1) (k : Ops P S l (put n v t) h1 K) : Ops P S (.mk .none (.some (slOf n)) b (.mk r) :: l) t h K := by
  obtain ⟨t', h', a1, a2⟩ := k
  refine ⟨t', h', fun k => ?_, a2⟩
  show r (cfS P S) t h (fun v h => sPut (slOf n) v t fun t => execOps (cfS P S) l t h k) = _
  rw [e, sPut_put, a1]
theorem Ops.op0 {b : Bool} {r : Run} {v : V} {h1 : H} (e : ∀ k, r (cfS P S) t h k = k v h1) (k : Ops P S l t h1 K) : Ops P S (.mk .none .none b (.mk r) :: l) t h K := by
  obtain ⟨t', h', a1, a2⟩ := k
  refine ⟨t', h', fun k => ?_, a2⟩
  show r (cfS P S) t h (fun v h => execOps (cfS P S) l t h k) = _
  rw [e, a1]
theorem Ops.guard {g n : Nat} {w q : Bool} {b : Bool} {r : CR} (e : get g t = .b q) (k1 : q = w → Ops P S (.mk .none (.some (slOf n)) b r :: l) t h K) (k2 : q = (!w) → Ops P S l (put n (.tu []) t) h K) :
    Ops P S (.mk (.some (slOf g) w) (.some (slOf n)) b r :: l) t h K := by
  have e0 : ∀ k, execOps (cfS P S) (.mk (.some (slOf g) w) (.some (slOf n)) b r :: l) t h k = vG (get g t) w fun x => opGo x r (.some (slOf n)) (cfS P S) (execOps (cfS P S) l) t h k := fun _ => rfl
  have e1 : ∀ f, vG (.b q) w f = f (xor (xor q w) true) := fun _ => rfl
  by_cases hq : q = w
  · obtain ⟨t', h', a1, a2⟩ := k1 hq
    refine ⟨t', h', fun k => ?_, a2⟩
    rw [e0, e, e1, hq]
    have : xor (xor w w) true = true := by cases w <;> rfl
    rw [this]
    exact a1 k
  · have hq' : q = !w := by cases q <;> cases w <;> simp_all
    obtain ⟨t', h', a1, a2⟩ := k2 hq'
    refine ⟨t', h', fun k => ?_, a2⟩
    rw [e0, e, e1, hq']
    have : xor (xor (!w) w) true = false := by cases w <;> rfl
    rw [this]
    show sPut (slOf n) (.tu []) t (fun t => execOps (cfS P S) l t h k) = _
    rw [sPut_put, a1]
theorem Ops.g1 {g n : Nat} {w : Bool} {b : Bool} {r : CR} (e : get g t = .b w) (k : Ops P S (.mk .none (.some (slOf n)) b r :: l) t h K) : Ops P S (.mk (.some (slOf g) w) (.some (slOf n)) b r :: l) t h K :=
  Ops.guard e (fun _ => k) fun h => by cases w <;> cases h
theorem evalsK_eq (t : F) (k : List V → Bool) : ∀ os : List O, evalsK os t k = k (os.map fun o => oV o t) := by
  intro os
  induction os generalizing k with
  | nil => rfl
  | cons o os ih =>
    have e : evalsK (o :: os) t k = oK o t fun v => evalsK os t fun vs => k (v :: vs) := rfl
    rw [e, oK_eq, ih]; rfl
/-- a call: by the function's specification -/
theorem Ops.call {n : Nat} {b : Bool} {f : FuncId} {args : List O} {vs : List V} (e : args.map (fun o => oV o t) = vs) (hf : FnOk P f vs h (S f vs h)) (k : ∀ v h1, S f vs h v h1 → Ops P S l (put n v t) h1 K) :
    Ops P S (.mk .none (.some (slOf n)) b (.mk (doCall f args)) :: l) t h K := by
  obtain ⟨v, h1, c1, c2⟩ := cfS_call hf
  refine Ops.op (v := v) (h1 := h1) (fun k => ?_) (k v h1 c2)
  show evalsK args t (fun vs => cfS P S f vs h k) = _
  rw [evalsK_eq, e, c1]
theorem Drs.bar {n : Nat} {r : Run} {v : V} {h1 : H} (e : ∀ k, r (cfS P S) t h k = k v h1) (k : Drs P S l (put n v t) h1 K) : Drs P S (.mk .none (.some (slOf n)) true (.mk r) :: l) t h K := by
  obtain ⟨t', h', a1, a2⟩ := k
  refine ⟨t', h', fun k => ?_, a2⟩
  show r (cfS P S) t h (fun v h => sPut (slOf n) v t fun t => execDr (cfS P S) l t h k) = _
  rw [e, sPut_put, a1]
theorem Drs.op {n : Nat} {r : Run} {v : V} {h1 : H} (e : ∀ k, r (cfS P S) t (reFloor h) k = k v h1) (k : Drs P S l (put n v t) (unFloor h h1) K) : Drs P S (.mk .none (.some (slOf n)) false (.mk r) :: l) t h K := by
  obtain ⟨t', h', a1, a2⟩ := k
  refine ⟨t', h', fun k => ?_, a2⟩
  show r (cfS P S) t (reFloor h) (fun v h2 => sPut (slOf n) v t fun t => execDr (cfS P S) l t (unFloor h h2) k) = _
  rw [e, sPut_put, a1]
theorem Drs.guard {g n : Nat} {w q : Bool} {b : Bool} {r : CR} (e : get g t = .b q) (k1 : q = w → Drs P S (.mk .none (.some (slOf n)) b r :: l) t h K) (k2 : q = (!w) → Drs P S l (put n (.tu []) t) h K) :
    Drs P S (.mk (.some (slOf g) w) (.some (slOf n)) b r :: l) t h K := by
  have e0 : ∀ k, execDr (cfS P S) (.mk (.some (slOf g) w) (.some (slOf n)) b r :: l) t h k = vG (get g t) w fun x => drGo x b r (.some (slOf n)) (cfS P S) (execDr (cfS P S) l) t h k := fun _ => rfl
  have e1 : ∀ f, vG (.b q) w f = f (xor (xor q w) true) := fun _ => rfl
  by_cases hq : q = w
  · obtain ⟨t', h', a1, a2⟩ := k1 hq
    refine ⟨t', h', fun k => ?_, a2⟩
    rw [e0, e, e1, hq]
    have : xor (xor w w) true = true := by cases w <;> rfl
    rw [this]
    exact a1 k
  · have hq' : q = !w := by cases q <;> cases w <;> simp_all
    obtain ⟨t', h', a1, a2⟩ := k2 hq'
    refine ⟨t', h', fun k => ?_, a2⟩
    rw [e0, e, e1, hq']
    have : xor (xor (!w) w) true = false := by cases w <;> rfl
    rw [this]
    show sPut (slOf n) (.tu []) t (fun t => execDr (cfS P S) l t h k) = _
    rw [sPut_put, a1]
theorem Drs.g1 {g n : Nat} {w : Bool} {b : Bool} {r : CR} (e : get g t = .b w) (k : Drs P S (.mk .none (.some (slOf n)) b r :: l) t h K) : Drs P S (.mk (.some (slOf g) w) (.some (slOf n)) b r :: l) t h K :=
  Drs.guard e (fun _ => k) fun h => by cases w <;> cases h
theorem Drs.call {n : Nat} {f : FuncId} {args : List O} {vs : List V} (e : args.map (fun o => oV o t) = vs) (hf : FnOk P f vs (reFloor h) (S f vs (reFloor h))) (k : ∀ v h1, S f vs (reFloor h) v h1 → Drs P S l (put n v t) (unFloor h h1) K) :
    Drs P S (.mk .none (.some (slOf n)) false (.mk (doCall f args)) :: l) t h K := by
  obtain ⟨v, h1, c1, c2⟩ := cfS_call hf
  refine Drs.op (v := v) (h1 := h1) (fun k => ?_) (k v h1 c2)
  show evalsK args t (fun vs => cfS P S f vs (reFloor h) k) = _
  rw [evalsK_eq, e, c1]
end
section
variable {K' : F → H → Prop} {K : X → F → H → Prop} {t : F} {h : H} {id j : Nat}
theorem Out_n : Out id K .normal t h = K .normal t h := rfl
theorem Out_e : Out id K (.exit j) t h = if j = id then K .normal t h else K (.exit j) t h := rfl
theorem Out_r : Out id K .ret t h = K .ret t h := rfl
end
section
variable (cf : CallF) (t : F) (h : H) (k : V → H → Bool) (o x y c : O)
theorem ev_move : doMove o cf t h k = k (oV o t) h := by simp only [doMove, oK_eq]
theorem ev_pick : doPick c x y cf t h k = vB (oV c t) fun q => k (cond q (oV x t) (oV y t)) h := by
  simp only [doPick, oE_eq, oK_eq]
  congr 1; funext q; cases q <;> rfl
theorem ev_bin (f : BinF) : bin2 f x y cf t h k = vI (oV x t) fun kd a => vI (oV y t) fun kd' b => ifK (kdEq kd kd') fun _ => f kd a b fun v => k v h := by simp only [bin2, oE_eq]
theorem ev_not : doNot x cf t h k = vB (oV x t) fun a => k (.b (!a)) h := by simp only [doNot, oE_eq, fB_eq]
theorem ev_bool (ne : Bool) : doBool ne x y cf t h k = vB (oV x t) fun a => vB (oV y t) fun b => k (.b (xor ne (xor (xor a b) true))) h := by simp only [doBool, oE_eq, fB_eq]
theorem ev_extract (j : Nat) : doExtract j x cf t h k = vT (oV x t) fun vs => optK (vs[j]?) fun v => k v h := by simp only [doExtract, oE_eq, forceV_eq]
theorem ev_lenS : doLenS x cf t h k = vS (oV x t) fun n _ => k (.i .i64 (.ofNat n)) h := by simp only [doLenS, oE_eq]
theorem ev_load : doLoad o cf t h k = vP (oV o t) fun id g off fin => load1 h id g off fin fun v => k v h := by simp only [doLoad, oE_eq]
theorem ev_loadA (size : Nat) : doLoadA size o cf t h k = vP (oV o t) fun id g off fin => loadN h id g off fin size fun vs => k (.a vs) h := by simp only [doLoadA, oE_eq]
theorem ev_fieldAddr (d : Nat) : doFieldAddr d o cf t h k = vP (oV o t) fun id g off fin => k (.p id g (off + d) fin) h := by simp only [doFieldAddr, oE_eq, fN_eq]; rfl
theorem ev_field (d : Nat) : doField d o cf t h k = vA (oV o t) fun cs => optK (cs[d]?) fun v => k v h := by simp only [doField, oE_eq, forceV_eq]
theorem ev_fieldA (d size : Nat) : doFieldA d size o cf t h k = vA (oV o t) fun cs => k (.a ((cs.drop d).take size)) h := by simp only [doFieldA, oE_eq]
theorem ev_nilCheck : doNilCheck o cf t h k = vP (oV o t) fun id g off fin => k (.p id g off fin) h := by simp only [doNilCheck, oE_eq]
theorem ev_min : doMin x y cf t h k = vI (oV x t) fun kd a => vI (oV y t) fun kd' b => ifK (kdEq kd kd') fun _ => k (.i kd (min a b)) h := by
  simp only [doMin, oE_eq, ltI_eq]
  congr 1; funext kd a; congr 1; funext kd' b
  congr 1; funext _
  by_cases hba : b < a
  · simp [hba, boolK]; rw [Int.min_eq_right (by omega)]
  · simp [hba, boolK]; rw [Int.min_eq_left (by omega)]
theorem ev_max : doMax x y cf t h k = vI (oV x t) fun kd a => vI (oV y t) fun kd' b => ifK (kdEq kd kd') fun _ => k (.i kd (max a b)) h := by
  simp only [doMax, oE_eq, ltI_eq]
  congr 1; funext kd a; congr 1; funext kd' b
  congr 1; funext _
  by_cases hba : a < b
  · simp [hba, boolK]; rw [Int.max_eq_right (by omega)]
  · simp [hba, boolK]; rw [Int.max_eq_left (by omega)]
end
section
variable (kd : IntKind) (a b : Int) (k : V → Bool)
theorem f_add : fAdd kd a b k = k (.i kd (kd.wrap (a + b))) := wrapF_eq _ _ _
theorem f_sub : fSub kd a b k = k (.i kd (kd.wrap (a - b))) := wrapF_eq _ _ _
theorem f_mul : fMul kd a b k = k (.i kd (kd.wrap (a * b))) := wrapF_eq _ _ _
theorem f_lss : fLss kd a b k = k (.b (decide (a < b))) := by simp only [fLss, fB_eq, ltI_eq]
theorem f_gtr : fGtr kd a b k = k (.b (decide (b < a))) := by simp only [fGtr, fB_eq, ltI_eq]
theorem f_leq : fLeq kd a b k = k (.b (decide (a ≤ b))) := by
  simp only [fLeq, fB_eq, ltI_eq]; congr 2
  by_cases h : b < a
  · simp [h]
  · simp [h]; omega
theorem f_geq : fGeq kd a b k = k (.b (decide (b ≤ a))) := by
  simp only [fGeq, fB_eq, ltI_eq]; congr 2
  by_cases h : a < b
  · simp [h]
  · simp [h]; omega
theorem f_eql : fEql kd a b k = k (.b (decide (a = b))) := by simp only [fEql, fB_eq, eqI_eq]; congr 2
theorem f_neq : fNeq kd a b k = k (.b (!decide (a = b))) := by simp only [fNeq, fB_eq, eqI_eq]; congr 2
end
theorem kdEq_self (kd : IntKind) : kdEq kd kd = true := by cases kd <;> rfl
theorem wrap_i64 {n : Int} (h1 : -9223372036854775808 ≤ n) (h2 : n ≤ 9223372036854775807) : IntKind.i64.wrap n = n := by
  cases n with
  | ofNat m => exact wrap_small .i64 m (by show m ≤ 9223372036854775807; simp at h2; omega)
  | negSucc m =>
    simp only [IntKind.wrap, IntKind.bits, IntKind.signed]
    have e : Int.negSucc m % (2 ^ 64 : Int) = 2 ^ 64 - (m + 1) := by omega
    simp [e]
    omega
noncomputable def cellB (blk : Option Blk) (g off : Nat) : Option V := match blk with
  | some b => if b.min ≤ g then b.cells.getN off else none
  | none => none
noncomputable def cell (h : H) (id : B) (g off : Nat) : Option V := cellB (h.heap.get id) g off
theorem load1_cell {h : H} {id : B} {g off fin : Nat} {v : V} (hc : cell h id g off = some v) (hf : off < fin) (k : V → Bool) : load1 h id g off fin k = k v := by
  obtain ⟨next, floor, heap⟩ := h
  unfold cell cellB at hc
  simp only at hc
  split at hc
  · rename_i blk hb
    obtain ⟨cur, min, size, cells, el, fr⟩ := blk
    simp only at hc
    split at hc
    · rename_i hm
      have h1 : Nat.ble min g = true := by rw [Nat.ble_eq]; exact hm
      have h2 : Nat.ble (Nat.succ off) fin = true := by rw [Nat.ble_eq]; exact hf
      simp only [load1, hK_mk, hb, optK_some, blkK_mk, h1, h2, ifK_true, hc, forceV_eq]
    · cases hc
  · cases hc
theorem getList_cells (cells : T V) : ∀ (n off : Nat) (vs : List V) (k : List V → Bool), vs.length = n → (∀ i v, vs[i]? = some v → cells.getN (off + i) = some v) → getList n cells off k = k vs
  | 0, off, vs, k, hl, _ => by
    have : vs = [] := List.eq_nil_of_length_eq_zero hl
    subst this; rfl
  | n + 1, off, vs, k, hl, hv => by
    cases vs with
    | nil => simp at hl
    | cons v vs =>
      have e : getList (n + 1) cells off k = optK (cells.getN off) fun v => getList n cells (off + 1) fun vs => k (v :: vs) := rfl
      have h0 := hv 0 v rfl
      rw [Nat.add_zero] at h0
      rw [e, h0, optK_some, getList_cells cells n (off + 1) vs _ (by simpa using hl) fun i u hu => by have := hv (i + 1) u (by simpa using hu); rwa [show off + (i + 1) = off + 1 + i by omega] at this]
/-- some cells, one behind the other -/
def Row (h : H) (id : B) (g off : Nat) (vs : List V) : Prop := (vs ≠ [] → ∃ b, h.heap.get id = some b ∧ b.min ≤ g) ∧ ∀ i v, vs[i]? = some v → cell h id g (off + i) = some v
theorem loadN_row {h : H} {id : B} {g off fin n : Nat} {vs : List V} (hr : Row h id g off vs) (hn : vs.length = n) (hne : vs ≠ []) (hf : off + n ≤ fin) (k : List V → Bool) : loadN h id g off fin n k = k vs := by
  obtain ⟨next, floor, heap⟩ := h
  obtain ⟨hr1, hc⟩ := hr
  obtain ⟨b, hb, hm⟩ := hr1 hne
  obtain ⟨cur, min, size, cells, el, fr⟩ := b
  have h1 : Nat.ble min g = true := by rw [Nat.ble_eq]; exact hm
  have h2 : Nat.ble (Nat.add off n) fin = true := by rw [Nat.ble_eq]; exact hf
  simp only [loadN, hK_mk]
  have hb' : heap.get id = some ⟨cur, min, size, cells, el, fr⟩ := hb
  simp only [hb', optK_some, blkK_mk, h1, h2, ifK_true]
  refine getList_cells cells n off vs k hn fun i v hv => ?_
  have := hc i v hv
  unfold cell cellB at this
  simp only [hb'] at this
  rwa [if_pos hm] at this
theorem setN_fine : ∀ (f n : Nat) (x : V) (t : T V) (k : T V → Bool), n + 1 < 2 ^ f → (∀ t', k t' = true) → T.setN f x t n k = true := by
  intro f
  induction f with
  | zero => intro n x t k h; simp at h
  | succ f ih =>
    intro n x t k h hk
    cases n with
    | zero => cases t <;> exact hk _
    | succ m =>
      have e : T.setN (f + 1) x t (m + 1) k = nS2 (m % 2) m (T.setN f) x t k := rfl
      have hm : m / 2 + 1 < 2 ^ f := by rw [Nat.pow_succ] at h; omega
      rw [e]
      rcases Nat.mod_two_eq_zero_or_one m with hp | hp
      · have e2 : nS2 (m % 2) m (T.setN f) x t k = nO t (T.setN f) x (m / 2) k := by rw [hp]; rfl
        rw [e2]
        cases t with
        | o => exact ih _ _ _ _ hm fun _ => hk _
        | n l v r => exact ih _ _ _ _ hm fun _ => hk _
      · have e2 : nS2 (m % 2) m (T.setN f) x t k = nI t (T.setN f) x (m / 2) k := by rw [hp]; rfl
        rw [e2]
        cases t with
        | o => exact ih _ _ _ _ hm fun _ => hk _
        | n l v r => exact ih _ _ _ _ hm fun _ => hk _
theorem setList_fine : ∀ (vs : List V) (n : Nat) (t : T V), n + vs.length < 2 ^ 38 → ∃ t', (∀ k, setList vs n t k = k t') ∧ (∀ i v, vs[i]? = some v → t'.getN (n + i) = some v) ∧ ∀ m, m < n ∨ n + vs.length ≤ m → t'.getN m = t.getN m := by
  have fine : ∀ (vs : List V) (n : Nat) (t : T V) (k : T V → Bool), n + vs.length < 2 ^ 38 → (∀ t', k t' = true) → setList vs n t k = true := by
    intro vs
    induction vs with
    | nil => intro n t k _ hk; exact hk t
    | cons v vs ih =>
      intro n t k hl hk
      exact setN_fine 40 n v t _ (by simp at hl; omega) fun t' => ih (n + 1) t' k (by simp at hl; omega) hk
  intro vs n t hl
  exact setList_ok vs n t (fun _ => true) (fine vs n t _ hl fun _ => rfl)
/-- what of a state stays: all blocks that there are, but those of which p holds -/
structure Stay (p : B → Prop) (h h' : H) : Prop where
  floor : h'.floor = h.floor
  next : B.val h.next ≤ B.val h'.next
  get : ∀ id, B.val id < B.val h.next → ¬ p id → h'.heap.get id = h.heap.get id
theorem Stay.refl (p : B → Prop) (h : H) : Stay p h h := ⟨rfl, Nat.le_refl _, fun _ _ _ => rfl⟩
theorem Stay.trans {p : B → Prop} {a b c : H} (x : Stay p a b) (y : Stay p b c) : Stay p a c :=
  ⟨y.floor.trans x.floor, Nat.le_trans x.next y.next, fun id h1 h2 => (y.get id (Nat.lt_of_lt_of_le h1 x.next) h2).trans (x.get id h1 h2)⟩
theorem Stay.mono {p q : B → Prop} {a b : H} (x : Stay p a b) (h : ∀ id, B.val id < B.val a.next → p id → q id) : Stay q a b := ⟨x.floor, x.next, fun id h1 h2 => x.get id h1 fun h3 => h2 (h id h1 h3)⟩
def nowhere : B → Prop := fun _ => False
theorem Stay.cell {p : B → Prop} {h h' : H} (x : Stay p h h') {id : B} (h1 : B.val id < B.val h.next) (h2 : ¬ p id) (g off : Nat) : cell h' id g off = cell h id g off := by
  unfold Ev.cell; rw [x.get id h1 h2]
/-- a new block -/
theorem alloc_new (el : Nat) (cs : List V) (h : H) (hl : cs.length < 2 ^ 38) : ∃ h', (∀ k, alloc el cs h k = k h.next h') ∧ Stay nowhere h h' ∧ B.val h'.next = B.val h.next + 1 ∧
    (∃ b, h'.heap.get h.next = some b ∧ b.min = 0 ∧ b.cur = 0 ∧ b.size = cs.length ∧ b.el = el ∧ b.fr = 0 ∧ ∀ i v, cs[i]? = some v → b.cells.getN i = some v) := by
  obtain ⟨next, floor, heap⟩ := h
  obtain ⟨tr, t1, t2, t3⟩ := setList_fine cs 0 .o (by omega)
  obtain ⟨hp, s1, s2, s3⟩ := setK_ok next (⟨0, 0, cs.length, tr, el, 0⟩ : Blk) heap
  obtain ⟨nx, n1, n2⟩ := incK_ok next
  refine ⟨⟨nx, floor, hp⟩, fun k => ?_, ⟨rfl, by show B.val next ≤ B.val nx; omega, fun id h1 _ => s3 id fun e => by rw [e] at h1; exact absurd h1 (Nat.lt_irrefl _)⟩, n2, ⟨0, 0, cs.length, tr, el, 0⟩, s2, rfl, rfl, rfl, rfl, rfl, fun i v hv => ?_⟩
  · show fN cs.length (fun sz => setList cs 0 .o fun t => T.setK next ⟨0, 0, sz, t, el, 0⟩ heap fun heap => B.incK next fun next' => k next ⟨next', floor, heap⟩) = _
    rw [fN_eq, t1, s1, n1]
  · have := t2 i v hv
    rwa [Nat.zero_add] at this
/-- the slice v reads as the cells xs (elements of one cell) -/
def Lst (h : H) (v : V) (xs : List V) : Prop :=
  (v = .l0 ∧ xs = []) ∨ ∃ id g off fin cap, v = .l id g off xs.length fin cap ∧ off + xs.length ≤ fin ∧ B.val id < B.val h.next ∧ Row h id g off xs
def lid : V → B | .l id _ _ _ _ _ => id | _ => .h
def lg : V → Nat | .l _ g _ _ _ _ => g | _ => 0
def loff : V → Nat | .l _ _ off _ _ _ => off | _ => 0
def lfin : V → Nat | .l _ _ _ _ fin _ => fin | _ => 0
noncomputable def lenV (v : V) (k : Nat → Bool) : Bool := vL v (fun _ => k 0) fun _ _ _ n _ _ => k n
noncomputable def idxV (size : Nat) (v : V) (n : Nat) (k : V → Bool) : Bool := vL v (fun _ => false) fun id g off len fin _ => ifK (Nat.ble (n + 1) len) fun _ => k (.p id g (off + n * size) fin)
theorem ev_len (x : O) (cf : CallF) (t : F) (h : H) (k : V → H → Bool) : doLen x cf t h k = lenV (oV x t) fun n => k (.i .i64 (n : Int)) h := by simp only [doLen, oE_eq]; rfl
theorem ev_idx (size : Nat) (o x : O) (cf : CallF) (t : F) (h : H) (k : V → H → Bool) : doIndexAddr size o x cf t h k = vI (oV x t) fun _ n => natK n fun n => idxV size (oV o t) n fun p => k p h := by
  have no : ∀ u : V, (vI u fun _ n => natK n fun _ => false) = false := by
    intro u
    cases u <;> first | rfl | (rename_i kd n; cases n <;> rfl)
  simp only [doIndexAddr, oE_eq]
  generalize oV o t = v
  generalize oV x t = u
  have hn : ∀ w : V, (∀ z k, vL w z k = false) → (vI u fun _ n => natK n fun n => idxV size w n fun p => k p h) = false := by
    intro w hw
    have : (fun (_ : IntKind) (n : Int) => natK n fun n => idxV size w n fun p => k p h) = fun _ n => natK n fun _ => false := by
      funext _ n; congr 1; funext n; exact hw _ _
    rw [this]; exact no u
  cases v with
  | l id g off len fin cap => simp only [vL_l, fN_eq]; rfl
  | l0 =>
    have : (vI u fun _ n => natK n fun n => idxV size .l0 n fun p => k p h) = false := no u
    rw [this]; rfl
  | _ => rw [hn _ fun _ _ => rfl]; rfl
theorem natK_cast (i : Nat) (k : Nat → Bool) : natK (i : Int) k = k i := rfl
theorem Lst.len {h0 : H} {v : V} {xs : List V} (a : Lst h0 v xs) (k : Nat → Bool) : lenV v k = k xs.length := by
  rcases a with ⟨rfl, rfl⟩ | ⟨id, g, off, fin, cap, rfl, _⟩ <;> rfl
theorem Lst.idx {h0 : H} {v : V} {xs : List V} {i : Nat} (a : Lst h0 v xs) (hi : i < xs.length) (k : V → Bool) : idxV 1 v i k = k (.p (lid v) (lg v) (loff v + i) (lfin v)) := by
  rcases a with ⟨rfl, rfl⟩ | ⟨id, g, off, fin, cap, rfl, _⟩
  · simp at hi
  · have h1 : Nat.ble (i + 1) xs.length = true := by rw [Nat.ble_eq]; exact hi
    show ifK (Nat.ble (i + 1) xs.length) (fun _ => k (.p id g (off + i * 1) fin)) = _
    rw [h1, ifK_true, Nat.mul_one]; rfl
theorem load_lst {h : H} {v : V} {xs : List V} {i : Nat} {y : V} (a : Lst h v xs) (hy : xs[i]? = some y) (k : V → Bool) : load1 h (lid v) (lg v) (loff v + i) (lfin v) k = k y := by
  have hi := (List.getElem?_eq_some_iff.1 hy).1
  rcases a with ⟨rfl, rfl⟩ | ⟨id, g, off, fin, cap, rfl, h2, _, h4⟩
  · simp at hi
  · exact load1_cell (h4.2 i y hy) (by show off + i < fin; omega) k
theorem Row.stay {p : B → Prop} {h h' : H} {id : B} {g off : Nat} {vs : List V} (r : Row h id g off vs) (s : Stay p h h') (h1 : B.val id < B.val h.next) (h2 : ¬ p id) : Row h' id g off vs := by
  obtain ⟨r1, r2⟩ := r
  exact ⟨(fun hne => by obtain ⟨b, b1, b2⟩ := r1 hne; exact ⟨b, (s.get id h1 h2).trans b1, b2⟩), fun i v hv => (s.cell h1 h2 g (off + i)).trans (r2 i v hv)⟩
theorem Lst.stay {p : B → Prop} {h h' : H} {v : V} {xs : List V} (a : Lst h v xs) (s : Stay p h h') (hp : ∀ id g off n fin cap, v = .l id g off n fin cap → ¬ p id) : Lst h' v xs := by
  rcases a with ⟨rfl, rfl⟩ | ⟨id, g, off, fin, cap, rfl, h2, h3, h4⟩
  · exact .inl ⟨rfl, rfl⟩
  · exact .inr ⟨id, g, off, fin, cap, rfl, h2, Nat.lt_of_lt_of_le h3 s.next, h4.stay s h3 (hp _ _ _ _ _ _ rfl)⟩
theorem Lst.grow {h h' : H} {v : V} {xs : List V} (a : Lst h v xs) (s : Stay nowhere h h') : Lst h' v xs := a.stay s fun _ _ _ _ _ _ _ => id
/-- a slice of bools -/
def Bl (h : H) (v : V) (R : List Bool) : Prop := Lst h v (R.map V.b)
theorem Bl.grow {h h' : H} {v : V} {R : List Bool} (a : Bl h v R) (s : Stay nowhere h h') : Bl h' v R := Lst.grow a s
theorem Bl.len {h0 : H} {v : V} {R : List Bool} (a : Bl h0 v R) (k : Nat → Bool) : lenV v k = k R.length := by
  rw [Lst.len a]; simp
theorem Bl.idx {h0 : H} {v : V} {R : List Bool} {i : Nat} (a : Bl h0 v R) (hi : i < R.length) (k : V → Bool) : idxV 1 v i k = k (.p (lid v) (lg v) (loff v + i) (lfin v)) := Lst.idx a (by simpa using hi) k
theorem Bl.rd {h : H} {v : V} {R : List Bool} {i : Nat} (a : Bl h v R) (hi : i < R.length) (k : V → Bool) : load1 h (lid v) (lg v) (loff v + i) (lfin v) k = k (.b (R.getD i false)) :=
  load_lst a (by simp [hi]) k
/-- a slice of slices of bools -/
def Mx (h : H) (v : V) (M : List (List Bool)) : Prop := ∃ rows, Lst h v rows ∧ rows.length = M.length ∧ ∀ i r, rows[i]? = some r → Bl h r (M.getD i [])
theorem Mx.grow {h h' : H} {v : V} {M : List (List Bool)} (a : Mx h v M) (s : Stay nowhere h h') : Mx h' v M := by
  obtain ⟨rows, r1, r2, r3⟩ := a
  exact ⟨rows, r1.grow s, r2, fun i r hr => (r3 i r hr).grow s⟩
theorem Mx.len {h0 : H} {v : V} {M : List (List Bool)} (a : Mx h0 v M) (k : Nat → Bool) : lenV v k = k M.length := by
  obtain ⟨rows, r1, r2, r3⟩ := a
  rw [r1.len, r2]
theorem Mx.idx {h0 : H} {v : V} {M : List (List Bool)} {i : Nat} (a : Mx h0 v M) (hi : i < M.length) (k : V → Bool) : idxV 1 v i k = k (.p (lid v) (lg v) (loff v + i) (lfin v)) := by
  obtain ⟨rows, r1, r2, r3⟩ := a
  exact r1.idx (by omega) k
theorem Mx.rd {h : H} {v : V} {M : List (List Bool)} {i : Nat} (a : Mx h v M) (hi : i < M.length) : ∃ r, Bl h r (M.getD i []) ∧ ∀ k : V → Bool, load1 h (lid v) (lg v) (loff v + i) (lfin v) k = k r := by
  obtain ⟨rows, r1, r2, r3⟩ := a
  have hi' : i < rows.length := by omega
  have hr : rows[i]? = some rows[i] := by simp
  exact ⟨rows[i], r3 i _ hr, load_lst r1 hr⟩
theorem res_1 (n : Nat) (t : F) (h : H) (k : List V → Bool) : resK [Rs.tmp (slOf n)] t h k = k [get n t] := by
  show forceV (sGet (slOf n) t) (fun v => k [v]) = _
  rw [forceV_eq]; rfl
theorem res_2 (n m : Nat) (t : F) (h : H) (k : List V → Bool) : resK [Rs.tmp (slOf n), Rs.tmp (slOf m)] t h k = k [get n t, get m t] := by
  show forceV (sGet (slOf n) t) (fun v => forceV (sGet (slOf m) t) fun u => k [v, u]) = _
  rw [forceV_eq, forceV_eq]; rfl
theorem one_1 (v : V) : one [v] = v := rfl
theorem one_2 (v u : V) : one [v, u] = .tu [v, u] := rfl
theorem Row.grow {h h' : H} {id : B} {g off : Nat} {vs : List V} (r : Row h id g off vs) (s : Stay nowhere h h') (h1 : B.val id < B.val h.next) : Row h' id g off vs := r.stay s h1 fun h => h
theorem Ops.box {P : Program} {S : Spec} {l : List CO} {t : F} {h : H} {K : F → H → Prop} {n : Nat} {b : Bool} {el : Nat} {o : O} {v : V} (e : oV o t = v) (hk : knownV v = true) (hl : (cells v).length < 2 ^ 38)
    (k : ∀ h1 id, Stay nowhere h h1 → B.val id < B.val h1.next → B.val h.next ≤ B.val id → Row h1 id 0 0 (cells v) → Ops P S l (put n (.p id 0 0 (cells v).length) t) h1 K) : Ops P S (.mk .none (.some (slOf n)) b (.mk (doBox el o)) :: l) t h K := by
  obtain ⟨h1, a1, a2, a3, blk, b1, b2, b3, b4, b5, b6, b7⟩ := alloc_new el (cells v) h hl
  refine Ops.op (v := .p h.next 0 0 (cells v).length) (h1 := h1) (fun k => ?_) (k h1 h.next a2 (by omega) (Nat.le_refl _) ⟨fun _ => ⟨blk, b1, by omega⟩, fun i y hy => ?_⟩)
  · show doBox el o _ t h k = _
    simp only [doBox, oK_eq, e, hk, ifK_true, a1]
  · unfold Ev.cell cellB
    rw [b1]
    show (if blk.min ≤ 0 then blk.cells.getN (0 + i) else none) = some y
    rw [if_pos (by omega), Nat.zero_add]
    exact b7 i y hy
/-- A FUNCTION, as it is compiled -/
theorem fn_run {P : Program} {f : FuncId} {nt : Nat} {cc : CC} {rs : List Rs} {vs : List V} {h : H} {K : V → H → Prop} (hc : compFn P f = ⟨nt, cc, rs⟩) (hbad : cc ≠ .bad) (hl1 : vs.length ≤ nt) (hl2 : vs.length ≤ 512)
    (ok : Ok P nt cc (slotsF vs 0 F.zero) h fun x t' h' => match x with
      | .exit _ => False
      | _ => ∃ us, (∀ k : List V → Bool, resK rs t' h' k = k us) ∧ K (one us) h') : FnOk P f vs h K := by
  unfold compFn at hc
  split at hc
  · cases hc; exact absurd rfl hbad
  · rename_i fn hfn
    split at hc
    · rename_i b hb hnm
      cases hc
      exact fn_ok hfn hb hnm rfl rfl hl1 hl2 ok
    · cases hc; exact absurd rfl hbad
end Go.Ev

set_option linter.all false
namespace Go.Ev
open Go
noncomputable def nb : Nat → B
  | 0 => .h
  | n + 1 => Classical.choose (incK_ok (nb n))
theorem nb_val : ∀ n, B.val (nb n) = n + 1
  | 0 => rfl
  | n + 1 => by
    have := (Classical.choose_spec (incK_ok (nb n))).2
    show B.val (Classical.choose (incK_ok (nb n))) = _
    rw [this, nb_val n]
theorem nb_inj {m n : Nat} (h : nb m = nb n) : m = n := by
  have := congrArg B.val h
  rw [nb_val, nb_val] at this; omega
def csz (W : World) (n : Nat) : Nat := match W.heap[n]? with
  | some (.cells c _ _) => c.size
  | _ => 0
open Classical in
noncomputable def emb0 (W : World) : Emb := fun id g => if e : g = 0 ∧ ∃ n, n < W.heap.size ∧ id = nb n then some ⟨Classical.choose e.2, 0, csz W (Classical.choose e.2), csz W (Classical.choose e.2), none⟩ else none
theorem emb0_eq {W : World} {n : Nat} (h : n < W.heap.size) : emb0 W (nb n) 0 = some ⟨n, 0, csz W n, csz W n, none⟩ := by
  have e : (0 : Nat) = 0 ∧ ∃ m, m < W.heap.size ∧ nb n = nb m := ⟨rfl, n, h, rfl⟩
  unfold emb0
  rw [dif_pos e]
  have := nb_inj (Classical.choose_spec e.2).2
  rw [← this]
theorem emb0_inv {W : World} {id : B} {g : Nat} {L : Loc} (h : emb0 W id g = some L) : ∃ n, n < W.heap.size ∧ id = nb n ∧ g = 0 ∧ L = ⟨n, 0, csz W n, csz W n, none⟩ := by
  unfold emb0 at h
  split at h
  · rename_i e
    cases h
    exact ⟨_, (Classical.choose_spec e.2).1, (Classical.choose_spec e.2).2, e.1, rfl⟩
  · cases h
noncomputable def absV (W : World) : Value → V
  | .bool b => .b b
  | .int k n => .i k n
  | .string bs => .s bs.size (pk bs.data.toList)
  | .pointer none => .p0
  | .pointer (some ⟨b, off, none⟩) => open Classical in if b < W.heap.size then .p (nb b) 0 off (csz W b) else .u
  | .slice none 0 0 => .l0
  | .slice (some ⟨b, off, none⟩) (n + 1) cap => open Classical in if b < W.heap.size ∧ n + 1 ≤ cap ∧ cap < 18446744073709551616 then .l (nb b) 0 off (n + 1) (csz W b) (some cap) else .u
  | .slice (some _) 0 _ => open Classical in if 0 < W.heap.size then .l (nb 0) 0 0 0 0 none else .u
  | .nilFunc => .f0
  | .nilIface => .x0
  | .map none => .m0
  | _ => .u
theorem absV_rel (W : World) (x : Value) : VRel (emb0 W) (absV W x) x := by
  unfold absV
  split
  · rfl
  · rfl
  · rename_i bs
    refine ⟨bs, rfl, rfl, foldl_pk0 _⟩
  · rfl
  · split
    · rename_i h
      exact ⟨_, emb0_eq h, rfl, Nat.zero_le _, Nat.le_refl _⟩
    · trivial
  · rfl
  · split
    · rename_i h
      exact ⟨_, _, _, emb0_eq h.1, rfl, h.2.1, Nat.zero_le _, Nat.le_refl _, .inr rfl, (fun d hd _ => by cases hd; rfl), (fun hd => absurd hd (Unk.no h.2.2))⟩
    · trivial
  · split
    · rename_i h
      exact ⟨_, _, _, emb0_eq h, rfl, Nat.zero_le _, Nat.zero_le _, Nat.zero_le _, .inl ⟨rfl, .inl rfl⟩, (fun d hd => by cases hd), (fun _ => .inl ⟨rfl, rfl⟩)⟩
    · trivial
  · rfl
  · rfl
  · rfl
  · trivial
theorem tree_of (vs : List V) : ∃ t : T V, ∀ (i : Nat) v, vs[i]? = some v → t.getN i = some v := by
  have key : ∀ n, ∃ t : T V, ∀ (i : Nat) v, i < n → vs[i]? = some v → t.getN i = some v := by
    intro n
    induction n with
    | zero => exact ⟨.o, fun i v h => absurd h (Nat.not_lt_zero i)⟩
    | succ n ih =>
      obtain ⟨t, ht⟩ := ih
      cases hv : vs[n]? with
      | none => exact ⟨t, fun i v hi h => by
          by_cases e : i = n
          · subst e; rw [hv] at h; cases h
          · exact ht i v (by omega) h⟩
      | some x =>
        obtain ⟨t', h1, h2, h3⟩ := setN_ok (n + 2) x t n (fun _ => true) (setN_fine (n + 2) n x t _ (Nat.lt_trans (Nat.lt_succ_self _) Nat.lt_two_pow_self) fun _ => rfl)
        refine ⟨t', fun i v hi h => ?_⟩
        by_cases e : i = n
        · subst e; rw [hv] at h; cases h; exact h2
        · rw [h3 i e]; exact ht i v (by omega) h
  obtain ⟨t, ht⟩ := key vs.length
  exact ⟨t, fun i v h => ht i v (List.getElem?_eq_some_iff.1 h).1 h⟩
/-- what is known of the n-th block -/
def BlkAt (W : World) (n : Nat) (b : Blk) : Prop := b.cur = 0 ∧ b.size = csz W n ∧ match W.heap[n]? with
  | some (.cells c el fz) => b.min = 0 ∧ b.el = el ∧ b.fr = fz.2 + 2 ∧ ∀ (i : Nat) x, c[i]? = some x → b.cells.getN i = some (absV W x)
  | _ => b.min = 1
theorem blk_at (W : World) (n : Nat) : ∃ b, BlkAt W n b := by
  unfold BlkAt csz
  cases h : W.heap[n]? with
  | none => exact ⟨⟨0, 1, 0, .o, 0, 0⟩, rfl, rfl, rfl⟩
  | some o =>
    cases o with
    | cells c el fz =>
      obtain ⟨t, ht⟩ := tree_of (c.toList.map (absV W))
      refine ⟨⟨0, 0, c.size, t, el, fz.2 + 2⟩, rfl, rfl, rfl, rfl, rfl, fun i x hx => ht i _ ?_⟩
      simp [hx]
    | _ => exact ⟨⟨0, 1, 0, .o, 0, 0⟩, rfl, rfl, rfl⟩
theorem heap_of (W : World) : ∀ k, ∃ hp : T Blk, ∀ n, n < k → ∃ b, hp.get (nb n) = some b ∧ BlkAt W n b := by
  intro k
  induction k with
  | zero => exact ⟨.o, fun n h => absurd h (Nat.not_lt_zero n)⟩
  | succ k ih =>
    obtain ⟨hp, h⟩ := ih
    obtain ⟨b, hb⟩ := blk_at W k
    obtain ⟨hp', s1, s2, s3⟩ := setK_ok (nb k) b hp
    refine ⟨hp', fun n hn => ?_⟩
    by_cases e : n = k
    · subst e; exact ⟨b, s2, hb⟩
    · obtain ⟨b', h1, h2⟩ := h n (by omega)
      exact ⟨b', (s3 _ fun he => e (nb_inj he)).trans h1, h2⟩
/-- THE STATE THAT A CALL BEGINS IN -/
theorem start (W : World) : ∃ h : H, HRel (emb0 W) h W W ∧ ∀ n, n < W.heap.size → B.val (nb n) < B.val h.next ∧ B.val (nb n) < B.val h.floor ∧ ∃ b, h.heap.get (nb n) = some b ∧ BlkAt W n b := by
  obtain ⟨hp, hh⟩ := heap_of W W.heap.size
  refine ⟨⟨nb W.heap.size, nb W.heap.size, hp⟩, ⟨?_, ?_, ?_, Nat.le_refl _, fun _ _ => rfl, ?_, rfl, rfl, rfl, Nat.le_refl _, ?_, ?_⟩, fun n hn => ⟨by show B.val (nb n) < B.val (nb _); rw [nb_val, nb_val]; omega, by show B.val (nb n) < B.val (nb _); rw [nb_val, nb_val]; omega, hh n hn⟩⟩
  · intro id g L hL
    obtain ⟨n, hn, rfl, rfl, rfl⟩ := emb0_inv hL
    obtain ⟨b, b1, b2, b3, b4⟩ := hh n hn
    refine ⟨b, b1, by omega, hn, Nat.zero_le _, fun _ => by show csz W n ≤ b.size; omega, fun _ => b3.symm, fun hm => ?_⟩
    cases hx : W.heap[n]? with
    | none => rw [Array.getElem?_eq_none_iff] at hx; omega
    | some o =>
      rw [hx] at b4
      cases o with
      | cells c el fz =>
        obtain ⟨c1, c2, c3, c4⟩ := b4
        have hcs : csz W n = c.size := by unfold csz; rw [hx]
        refine ⟨c, el, ⟨c2.symm, fz, hx, ?_⟩, hcs.symm, by show csz W n - 0 ≤ csz W n; omega, fun i _ hi => ?_⟩
        · rw [c3]; exact .inr (Nat.le_refl _)
        · have hi' : i < c.size := by rw [← hcs]; exact hi
          have hxi : c[i]? = some (c[i]'hi') := by simp
          exact ⟨absV W c[i], c[i], c4 i _ hxi, by simpa using hxi, absV_rel W _⟩
      | _ => exact absurd hm (by rw [b4]; exact Nat.not_succ_le_zero 0)
  · intro id g L hL
    obtain ⟨n, hn, rfl, rfl, rfl⟩ := emb0_inv hL
    show B.val (nb n) < B.val (nb _)
    rw [nb_val, nb_val]; omega
  · intro id g L id' g' L' hL hL' hb
    obtain ⟨n, hn, rfl, rfl, rfl⟩ := emb0_inv hL
    obtain ⟨n', hn', rfl, rfl, rfl⟩ := emb0_inv hL'
    have : n = n' := hb
    subst this; exact ⟨rfl, rfl⟩
  · intro id g L hL hf
    obtain ⟨n, hn, rfl, rfl, rfl⟩ := emb0_inv hL
    have : B.val (nb W.heap.size) ≤ B.val (nb n) := hf
    rw [nb_val, nb_val] at this; omega
  · intro id L blk hL h2 kc h3
    obtain ⟨n, hn, rfl, _, rfl⟩ := emb0_inv hL
    obtain ⟨b, b1, b2, b3, b4⟩ := hh n hn
    have hbe : hp.get (nb n) = some blk := h2
    rw [b1] at hbe
    cases hbe
    have : blk.min ≤ 1 := by
      revert b4
      split
      · rintro ⟨e, _⟩; omega
      · intro e; omega
    have h7 : 7 ≤ kdN kc := by cases kc <;> decide
    omega
  · intro id g L blk ob hL h2 hg h3 h5
    obtain ⟨n, hn, rfl, _, rfl⟩ := emb0_inv hL
    cases h5
/-- where it begins -/
structure Start (W : World) (h : H) : Prop where
  rel : HRel (emb0 W) h W W
  blk : ∀ n, n < W.heap.size → B.val (nb n) < B.val h.next ∧ B.val (nb n) < B.val h.floor ∧ ∃ b, h.heap.get (nb n) = some b ∧ BlkAt W n b
theorem Start.cell {W : World} {h : H} (s : Start W h) {b off : Nat} {x : Value} (hx : W.cell? ⟨b, off, none⟩ = some x) : b < W.heap.size ∧ off < csz W b ∧ (∃ blk, h.heap.get (nb b) = some blk ∧ blk.min ≤ 0) ∧ Ev.cell h (nb b) 0 off = some (absV W x) := by
  simp only [World.cell?] at hx
  split at hx
  · rename_i c el fz hb
    have hlt : b < W.heap.size := (Array.getElem?_eq_some_iff.1 hb).1
    obtain ⟨_, _, blk, b1, b2, b3, b4⟩ := s.blk b hlt
    rw [hb] at b4
    obtain ⟨c1, c2, c3, c4⟩ := b4
    have hcs : csz W b = c.size := by unfold csz; rw [hb]
    refine ⟨hlt, by rw [hcs]; exact (Array.getElem?_eq_some_iff.1 hx).1, ⟨blk, b1, by omega⟩, ?_⟩
    unfold Ev.cell cellB
    rw [b1]
    show (if blk.min ≤ 0 then blk.cells.getN off else none) = _
    rw [if_pos (by omega)]
    exact c4 off x hx
  · cases hx
/-- a slice whose elements are one cell each -/
theorem Start.lst {W : World} {h : H} (s : Start W h) (h0 : 0 < W.heap.size) {a : Addr} {len cap : Nat} (hs : len ≠ 0 → a.spot = none) (hl : len ≤ cap) (hM : cap < 18446744073709551616) (xs : List Value) (hn : xs.length = len) (hx : ∀ i x, xs[i]? = some x → W.cell? ⟨a.block, a.off + i, none⟩ = some x) :
    Lst h (absV W (.slice (some a) len cap)) (xs.map (absV W)) := by
  obtain ⟨b, off, spot⟩ := a
  cases len with
  | zero =>
    have : xs = [] := List.eq_nil_of_length_eq_zero hn
    subst this
    have e : absV W (.slice (some ⟨b, off, spot⟩) 0 cap) = .l (nb 0) 0 0 0 0 none := by unfold absV; simp only [if_pos h0]
    rw [e]
    exact .inr ⟨nb 0, 0, 0, 0, none, rfl, Nat.le_refl _, (s.blk 0 h0).1, fun hne => absurd rfl hne, fun i v hv => by simp at hv⟩
  | succ n =>
    have hs' : spot = none := hs (by omega)
    subst hs'
    have hlast : ∃ x, xs[n]? = some x := ⟨xs[n]'(by omega), by simp⟩
    obtain ⟨x, hxl⟩ := hlast
    obtain ⟨d1, d2, d3, d4⟩ := s.cell (hx n x hxl)
    have e : absV W (.slice (some ⟨b, off, none⟩) (n + 1) cap) = .l (nb b) 0 off (n + 1) (csz W b) (some cap) := by unfold absV; simp only [if_pos (⟨d1, hl, hM⟩ : b < W.heap.size ∧ n + 1 ≤ cap ∧ cap < 18446744073709551616)]
    rw [e]
    refine .inr ⟨nb b, 0, off, csz W b, some cap, by rw [List.length_map, hn], by rw [List.length_map, hn]; have : off + n < csz W b := d2; omega, (s.blk b d1).1, fun _ => d3, fun i v hv => ?_⟩
    rw [List.getElem?_map] at hv
    cases hxi : xs[i]? with
    | none => rw [hxi] at hv; cases hv
    | some y =>
      rw [hxi] at hv
      cases hv
      exact (s.cell (hx i y hxi)).2.2.2
end Go.Ev

set_option linter.all false
namespace Go.Ev
open Go
/-- v is a slice of the call's own, that only it appends to: its cells are xs ('size' an element) -/
def Buf (h : H) (el size : Nat) (v : V) (xs : List V) : Prop :=
  (v = .l0 ∧ xs = []) ∨ ∃ id g n blk, v = .l id g 0 n xs.length none ∧ 1 ≤ n ∧ xs.length = n * size ∧ B.val h.floor ≤ B.val id ∧ B.val id < B.val h.next ∧ h.heap.get id = some blk ∧ (blk.min ≤ g ∧ g ≤ blk.cur) ∧ blk.size = xs.length ∧ blk.el = el ∧ blk.fr = 0 ∧
    ∀ i y, xs[i]? = some y → blk.cells.getN i = some y
/-- the block that a slice lies in -/
def isOf (v : V) : B → Prop := fun id => ∃ g off n fin cap, v = .l id g off n fin cap
theorem Buf.nil (h : H) (el size : Nat) : Buf h el size .l0 [] := .inl ⟨rfl, rfl⟩
theorem Buf.lst {h : H} {el : Nat} {v : V} {xs : List V} (b : Buf h el 1 v xs) : Lst h v xs := by
  rcases b with ⟨rfl, rfl⟩ | ⟨id, g, n, blk, rfl, h1, h2, h3, h4, h5, h6, h7, h8, h9, h10⟩
  · exact .inl ⟨rfl, rfl⟩
  · refine .inr ⟨id, g, 0, xs.length, none, by rw [h2, Nat.mul_one], by omega, h4, fun _ => ⟨blk, h5, h6.1⟩, fun i y hy => ?_⟩
    unfold Ev.cell cellB
    rw [h5]
    show (if blk.min ≤ g then blk.cells.getN (0 + i) else none) = _
    rw [if_pos h6.1, Nat.zero_add]
    exact h10 i y hy
theorem Buf.stay {p : B → Prop} {h h' : H} {el size : Nat} {v : V} {xs : List V} (b : Buf h el size v xs) (s : Stay p h h') (hp : ∀ id, isOf v id → ¬ p id) : Buf h' el size v xs := by
  rcases b with ⟨rfl, rfl⟩ | ⟨id, g, n, blk, rfl, h1, h2, h3, h4, h5, h6⟩
  · exact .inl ⟨rfl, rfl⟩
  · exact .inr ⟨id, g, n, blk, rfl, h1, h2, by rw [s.floor]; exact h3, Nat.lt_of_lt_of_le h4 s.next, (s.get id h4 (hp id ⟨_, _, _, _, _, rfl⟩)).trans h5, h6⟩
theorem Buf.grow {h h' : H} {el size : Nat} {v : V} {xs : List V} (b : Buf h el size v xs) (s : Stay nowhere h h') : Buf h' el size v xs := b.stay s fun _ _ h => h
/-- it was made here, behind h0 -/
theorem Buf.own {h : H} {el size : Nat} {v : V} {xs : List V} (b : Buf h el size v xs) {id : B} (i : isOf v id) : B.val h.floor ≤ B.val id ∧ B.val id < B.val h.next := by
  rcases b with ⟨rfl, rfl⟩ | ⟨id', g, n, blk, rfl, h1, h2, h3, h4, _⟩
  · obtain ⟨_, _, _, _, _, e⟩ := i; cases e
  · obtain ⟨_, _, _, _, _, e⟩ := i; cases e; exact ⟨h3, h4⟩
theorem append_buf {h : H} {el size n : Nat} {v : V} {xs vs : List V} (b : Buf h el size v xs) (hf : B.val h.floor ≤ B.val h.next) (hsz : 1 ≤ size) (hn : vs.length = n * size) (h1 : allOne vs = true) (hb : xs.length + vs.length ≤ 1048576) :
    ∃ v' h', (∀ k, append2 el size v n vs h k = k v' h') ∧ Buf h' el size v' (xs ++ vs) ∧ Stay (isOf v) h h' ∧ ∀ id, isOf v' id → isOf v id ∨ B.val h.next ≤ B.val id := by
  have hle : n ≤ vs.length := by rw [hn]; exact Nat.le_mul_of_pos_right _ hsz
  rcases b with ⟨rfl, rfl⟩ | ⟨id, g, m, blk, rfl, b1, b2, b3, b4, b5, b6, b7, b8, b9, b10⟩
  · cases n with
    | zero =>
      have : vs = [] := List.eq_nil_of_length_eq_zero (by simpa using hn)
      subst this
      exact ⟨.l0, h, fun k => rfl, Buf.nil h el size, Stay.refl _ h, fun id i => .inl i⟩
    | succ n =>
      obtain ⟨h', a1, a2, a3, blk, c1, c2, c3, c4, c5, c6, c7⟩ := alloc_new el vs h (by omega)
      have hble : Nat.ble (n + 1) 1048576 = true := by rw [Nat.ble_eq]; simp at hb; omega
      refine ⟨.l h.next 0 0 (n + 1) vs.length none, h', fun k => ?_, .inr ⟨h.next, 0, n + 1, blk, rfl, by omega, hn, by rw [a2.floor]; exact hf, by omega, c1, ⟨by omega, by omega⟩, c4, c5, c6, c7⟩, a2.mono fun _ _ h => h.elim, fun id i => ?_⟩
      · show (ifK (Nat.ble (n + 1) 1048576) fun _ => alloc el vs h fun id h => k (.l id 0 0 (n + 1) vs.length none) h) = _
        rw [hble, ifK_true, a1]
      · obtain ⟨_, _, _, _, _, e⟩ := i; cases e; exact .inr (Nat.le_refl _)
  · obtain ⟨next, floor, heap⟩ := h
    obtain ⟨cur, min, sz, cells, bel, fr⟩ := blk
    simp only at b6 b7 b8 b9 b10
    obtain ⟨tr, t1, t2, t3⟩ := setList_fine vs sz cells (by omega)
    obtain ⟨hp, s1, s2, s3⟩ := setK_ok id (⟨Nat.succ cur, min, Nat.add sz (Nat.mul n size), tr, bel, fr⟩ : Blk) heap
    have e1 : Nat.ble min g = true := by rw [Nat.ble_eq]; exact b6.1
    have e2 : B.geB floor id = true := by
      cases floor <;> first | rfl | (show Nat.ble _ _ = true; rw [Nat.ble_eq]; exact b3)
    have e3 : Nat.add 0 (Nat.mul m size) = sz := by
      show 0 + m * size = sz
      omega
    have e3' : Nat.ble sz sz = true := by rw [Nat.ble_eq]; exact Nat.le_refl _
    have e4 : Nat.beq xs.length sz = true := by rw [b7]; simp
    have e4' : Nat.beq sz sz = true := Nat.beq_refl _
    have e9 : capZ size (Nat.add m n) = none := capZ_pos (by show 1 ≤ m + n; omega)
    have e5 : Nat.ble 1 m = true := by rw [Nat.ble_eq]; exact b1
    have hm : m ≤ xs.length := by rw [b2]; exact Nat.le_mul_of_pos_right _ hsz
    have e6 : Nat.ble (Nat.add m n) 1048576 = true := by rw [Nat.ble_eq]; show m + n ≤ 1048576; omega
    have e7 : frOk fr sz = true := by rw [b9]; rfl
    have e8 : Nat.beq bel el = true := by rw [b8]; simp
    refine ⟨.l id (Nat.succ cur) 0 (m + n) (sz + n * size) none, ⟨next, floor, hp⟩, fun k => ?_, .inr ⟨id, Nat.succ cur, m + n, _, ?_, by omega, ?_, b3, b4, s2, ?_, ?_, b8, b9, fun i y hy => ?_⟩, ⟨rfl, Nat.le_refl _, fun id' _ hne => s3 id' fun e => hne (by subst e; exact ⟨_, _, _, _, _, rfl⟩)⟩, fun id' i => ?_⟩
    · show appGrow (Nat.ble 1 m) el id g 0 m xs.length size n vs ⟨next, floor, heap⟩ k = _
      have b5' : heap.get id = some ⟨cur, min, sz, cells, bel, fr⟩ := b5
      simp only [appGrow, hK_mk, b5', optK_some, blkK_mk, fN_eq, e3, e1, e2, e3', e4, e4', selN_t, e5, e6, h1, e7, e8, e9, ifK_true]
      rw [t1, s1]; rfl
    · show V.l id (Nat.succ cur) 0 (m + n) (sz + n * size) none = V.l id (Nat.succ cur) 0 (m + n) (xs ++ vs).length none
      rw [List.length_append, hn, b7]
    · rw [List.length_append, hn, b2, Nat.add_mul]
    · exact ⟨by show min ≤ cur + 1; omega, Nat.le_refl _⟩
    · show Nat.add sz (Nat.mul n size) = (xs ++ vs).length
      rw [List.length_append, hn, b7]; rfl
    · show tr.getN i = some y
      by_cases hi : i < xs.length
      · rw [t3 i (.inl (by omega))]
        refine b10 i y ?_
        rwa [List.getElem?_append_left hi] at hy
      · have hi' : i - xs.length < vs.length := by
          have := (List.getElem?_eq_some_iff.1 hy).1
          simp at this; omega
        rw [List.getElem?_append_right (by omega)] at hy
        have := t2 (i - xs.length) y hy
        rwa [show sz + (i - xs.length) = i by omega] at this
    · obtain ⟨_, _, _, _, _, e⟩ := i; cases e; exact .inl ⟨_, _, _, _, _, rfl⟩
/-- a block of the call's own, with the cells xs (and perhaps more behind them) -/
def Own (h : H) (id : B) (xs : List V) : Prop := ∃ blk, h.heap.get id = some blk ∧ blk.cur = 0 ∧ blk.min = 0 ∧ blk.fr = 0 ∧ B.val h.floor ≤ B.val id ∧ B.val id < B.val h.next ∧ ∀ i y, xs[i]? = some y → blk.cells.getN i = some y
theorem Own.stay {p : B → Prop} {h h' : H} {id : B} {xs : List V} (o : Own h id xs) (s : Stay p h h') (hp : ¬ p id) : Own h' id xs := by
  obtain ⟨blk, h1, h2, h3, h4, h5, h6, h7⟩ := o
  exact ⟨blk, (s.get id h6 hp).trans h1, h2, h3, h4, by rw [s.floor]; exact h5, Nat.lt_of_lt_of_le h6 s.next, h7⟩
theorem Own.row {h : H} {id : B} {xs : List V} (o : Own h id xs) : Row h id 0 0 xs := by
  obtain ⟨blk, h1, h2, h3, h4, h5, h6, h7⟩ := o
  refine ⟨fun _ => ⟨blk, h1, by omega⟩, fun i y hy => ?_⟩
  unfold Ev.cell cellB
  rw [h1]
  show (if blk.min ≤ 0 then blk.cells.getN (0 + i) else none) = _
  rw [if_pos (by omega), Nat.zero_add]
  exact h7 i y hy
theorem Own.lst {h : H} {id : B} {xs : List V} (o : Own h id xs) (cap : Option Nat) : Lst h (.l id 0 0 xs.length xs.length cap) xs := by
  have r := o.row
  obtain ⟨blk, h1, h2, h3, h4, h5, h6, h7⟩ := o
  exact .inr ⟨id, 0, 0, _, cap, rfl, by omega, h6, r⟩
/-- at one place written -/
theorem store_own {h : H} {id : B} {xs : List V} {j fin : Nat} {y : V} (o : Own h id xs) (hj : j < fin) (hfit : j < 2 ^ 37) (h1 : oneV y = true) : ∃ h', (∀ k, store h id 0 j fin [y] k = k h') ∧ Own h' id (xs.set j y) ∧ Stay (fun i => i = id) h h' := by
  obtain ⟨blk, a1, a2, a3, a4, a5, a6, a7⟩ := o
  obtain ⟨next, floor, heap⟩ := h
  obtain ⟨cur, min, sz, cells, bel, fr⟩ := blk
  simp only at a2 a3 a4 a7
  subst a2; subst a3; subst a4
  obtain ⟨tr, t1, t2, t3⟩ := setList_fine [y] j cells (by simp; omega)
  obtain ⟨hp, s1, s2, s3⟩ := setK_ok id (⟨0, 0, sz, tr, bel, 0⟩ : Blk) heap
  have e1 : B.geB floor id = true := by cases floor <;> first | rfl | (show Nat.ble _ _ = true; rw [Nat.ble_eq]; exact a5)
  have e2 : Nat.ble (Nat.add j 1) fin = true := by rw [Nat.ble_eq]; exact hj
  have e3 : allOne [y] = true := by show Bool.rec false true (oneV y) = true; rw [h1]
  have e4 : frOk 0 j = true := rfl
  have e5 : Nat.beq 0 0 = true := rfl
  have e6 : Nat.ble 0 0 = true := rfl
  have a1' : heap.get id = some ⟨0, 0, sz, cells, bel, 0⟩ := a1
  refine ⟨⟨next, floor, hp⟩, fun k => ?_, ⟨_, s2, rfl, rfl, rfl, a5, a6, fun i z hz => ?_⟩, ⟨rfl, Nat.le_refl _, fun i _ hi => s3 i hi⟩⟩
  · simp only [store, hK_mk, a1', optK_some, blkK_mk, List.length_singleton, e5, e6, e1, e2, e3, e4, ifK_true]
    rw [t1, s1]
  · show tr.getN i = some z
    rw [List.getElem?_set] at hz
    split at hz
    · rename_i hij
      subst hij
      split at hz
      · cases hz
        exact t2 0 y rfl
      · cases hz
    · rename_i hij
      rw [t3 i (by simp; omega)]
      exact a7 i z hz
theorem alloc_own (el : Nat) (cs : List V) (h : H) (hl : cs.length < 2 ^ 37) (hf : B.val h.floor ≤ B.val h.next) : ∃ h', (∀ k, alloc el cs h k = k h.next h') ∧ Stay nowhere h h' ∧ Own h' h.next cs ∧ B.val h'.next = B.val h.next + 1 := by
  obtain ⟨h', a1, a2, a3, blk, b1, b2, b3, b4, b5, b6, b7⟩ := alloc_new el cs h (by omega)
  exact ⟨h', a1, a2, ⟨blk, b1, b3, b2, b6, by rw [a2.floor]; exact hf, by omega, b7⟩, a3⟩
theorem unFloor_same (h : H) : unFloor h (reFloor h) = h := by cases h; rfl
theorem Stay.unfloor {p : B → Prop} {h h1 : H} (s : Stay p (reFloor h) h1) : Stay p h (unFloor h h1) := by
  obtain ⟨n, f, hp⟩ := h
  obtain ⟨n1, f1, hp1⟩ := h1
  exact ⟨rfl, s.next, s.get⟩
theorem Own.unfloor {h h1 : H} {id : B} {xs : List V} (o : Own h1 id xs) (hf : B.val h.floor ≤ B.val id) : Own (unFloor h h1) id xs := by
  obtain ⟨n, f, hp⟩ := h
  obtain ⟨n1, f1, hp1⟩ := h1
  obtain ⟨blk, a1, a2, a3, a4, a5, a6, a7⟩ := o
  exact ⟨blk, a1, a2, a3, a4, hf, a6, a7⟩
theorem ev_convR (cf : CallF) (t : F) (h : H) (k : V → H → Bool) (kd : IntKind) (x : O) : doConv kd x cf t h k = vIR (oV x t) (fun _ n => k (.i kd (kd.wrap n)) h) fun _ m r hi => ifK (Nat.ble hi (mxOf kd)) fun _ => k (.r kd m r hi) h := by simp only [doConv, oE_eq, wrapF_eq]
theorem ev_rem (cf : CallF) (t : F) (h : H) (k : V → H → Bool) (x y : O) : doRem x y cf t h k = vI (oV y t) fun kd' b => vIR (oV x t) (fun kd a => ifK (kdEq kd kd') fun _ => fRem kd a b fun v => k v h) fun kd m r _ => remR kd' b (fun v => k v h) kd m r := by simp only [doRem, oE_eq, oK_eq]
section
variable {P : Program} {S : Spec} {l : List CO} {t : F} {h : H} {K : F → H → Prop}
theorem Drs.pure {n : Nat} {r : Run} {v : V} (e : ∀ k, r (cfS P S) t (reFloor h) k = k v (reFloor h)) (k : Drs P S l (put n v t) h K) : Drs P S (.mk .none (.some (slOf n)) false (.mk r) :: l) t h K :=
  Drs.op e (by rw [unFloor_same]; exact k)
theorem store_eq {o x : O} {id : B} {j fin : Nat} {y : V} {h' : H} (e1 : oV o t = .p id 0 j fin) (e2 : cells (oV x t) = [y]) (hs : ∀ k : H → Bool, store h id 0 j fin [y] k = k h') (cf : CallF) (k : V → H → Bool) : doStore 1 o x cf t h k = k (.tu []) h' := by
  simp only [doStore, oE_eq, oK_eq, e1, vP_p, e2]
  have : Nat.beq [y].length 1 = true := rfl
  rw [this, ifK_true, hs]
theorem Ops.store {b : Bool} {o x : O} {id : B} {j fin : Nat} {y : V} {xs : List V} (e1 : oV o t = .p id 0 j fin) (e2 : cells (oV x t) = [y]) (ho : Own h id xs) (hj : j < fin) (hfit : j < 2 ^ 37) (h1 : oneV y = true)
    (k : ∀ h', Own h' id (xs.set j y) → Stay (fun i => i = id) h h' → Ops P S l t h' K) : Ops P S (.mk .none .none b (.mk (doStore 1 o x)) :: l) t h K := by
  obtain ⟨h', a1, a2, a3⟩ := store_own ho hj hfit h1
  exact Ops.op0 (fun k => store_eq e1 e2 a1 _ k) (k h' a2 a3)
theorem Drs.bar0 {r : Run} {v : V} {h1 : H} (e : ∀ k, r (cfS P S) t h k = k v h1) (k : Drs P S l t h1 K) : Drs P S (.mk .none .none true (.mk r) :: l) t h K := by
  obtain ⟨t', h', a1, a2⟩ := k
  refine ⟨t', h', fun k => ?_, a2⟩
  show r (cfS P S) t h (fun v h => execDr (cfS P S) l t h k) = _
  rw [e, a1]
theorem Drs.store {o x : O} {id : B} {j fin : Nat} {y : V} {xs : List V} (e1 : oV o t = .p id 0 j fin) (e2 : cells (oV x t) = [y]) (ho : Own h id xs) (hj : j < fin) (hfit : j < 2 ^ 37) (h1 : oneV y = true)
    (k : ∀ h', Own h' id (xs.set j y) → Stay (fun i => i = id) h h' → Drs P S l t h' K) : Drs P S (.mk .none .none true (.mk (doStore 1 o x)) :: l) t h K := by
  obtain ⟨h', a1, a2, a3⟩ := store_own ho hj hfit h1
  exact Drs.bar0 (fun k => store_eq e1 e2 a1 _ k) (k h' a2 a3)
/-- a literal of one element -/
theorem Drs.lit1 {n el : Nat} {o : O} {y : V} (e1 : oV o t = y) (h1 : knownV y = true) (h2 : cells y = [y]) (hf : B.val h.floor ≤ B.val h.next)
    (k : ∀ h' id, Stay nowhere h h' → id = h.next → B.val h'.next = B.val h.next + 1 → Own h' id [y] → Drs P S l (put n (.l id 0 0 1 1 (some 1)) t) h' K) {z : V} : Drs P S (.mk .none (.some (slOf n)) false (.mk (doBuildSlice el 1 [z] [Pt.mk 0 1 o])) :: l) t h K := by
  obtain ⟨h', a1, a2, a3, a4⟩ := alloc_own el [y] (reFloor h) (by show 1 < 2 ^ 37; decide) (by rw [reFloor_floor, reFloor_next]; exact Nat.le_refl _)
  rw [reFloor_next] at a1 a3 a4
  refine Drs.op (v := .l h.next 0 0 1 1 (some 1)) (h1 := h') (fun k => ?_) (k _ h.next a2.unfloor rfl (by obtain ⟨n, f, hp⟩ := h; obtain ⟨n1, f1, hp1⟩ := h'; exact a4) (a3.unfloor hf))
  show oK o t (fillP 0 1 (fun t cs k => k cs) t [z] fun cs => alloc el cs (reFloor h) fun id h => k (.l id 0 0 1 cs.length (some 1)) h) = _
  rw [oK_eq, e1]
  unfold fillP
  rw [h1, ifK_true, h2]
  show alloc el [y] (reFloor h) (fun id h => k (.l id 0 0 1 1 (some 1)) h) = _
  rw [a1]
/-- append of a literal of one element to an own slice -/
theorem app1_eq {el n : Nat} {s x : O} {id : B} {y : V} {v' : V} {h' : H} {v : V} (e1 : oV s t = v) (e2 : oV x t = .l id 0 0 1 1 (some 1)) (hr : Row h id 0 0 [y]) (ha : ∀ k : V → H → Bool, append2 el 1 v 1 [y] h k = k v' h') (cf : CallF) (k : V → H → Bool) :
    doAppend el 1 s x cf t h k = k v' h' := by
  simp only [doAppend, oK_eq, e1, e2]
  show loadN h id 0 0 1 (Nat.mul 1 1) (fun vs => append2 el 1 v 1 vs h k) = _
  have : Nat.mul 1 1 = 1 := rfl
  rw [this, loadN_row (n := 1) (vs := [y]) hr rfl (by simp) (by omega), ha]
theorem Drs.app1 {n el : Nat} {s x : O} {id : B} {y v : V} {xs : List V} (e1 : oV s t = v) (e2 : oV x t = .l id 0 0 1 1 (some 1)) (hr : Row h id 0 0 [y]) (hb : Buf h el 1 v xs) (hf : B.val h.floor ≤ B.val h.next) (h1 : oneV y = true) (hl : xs.length + 1 ≤ 1048576)
    (k : ∀ v' h', Buf h' el 1 v' (xs ++ [y]) → Stay (isOf v) h h' → (∀ i, isOf v' i → isOf v i ∨ B.val h.next ≤ B.val i) → oneV v' = true → Drs P S l (put n v' t) h' K) : Drs P S (.mk .none (.some (slOf n)) true (.mk (doAppend el 1 s x)) :: l) t h K := by
  obtain ⟨v', h', a1, a2, a3, a4⟩ := append_buf (vs := [y]) (n := 1) hb hf (Nat.le_refl _) rfl (by show Bool.rec false true (oneV y) = true; rw [h1]) hl
  refine Drs.bar (fun k => app1_eq (n := n) e1 e2 hr a1 _ k) (k v' h' a2 a3 a4 ?_)
  rcases a2 with ⟨rfl, _⟩ | ⟨_, _, _, _, rfl, _⟩ <;> rfl
end
theorem Ok.mid {P : Program} {nt : Nat} {a b : CC} {t : F} {h : H} {K : X → F → H → Prop} (Q : F → H → Prop) (k1 : Ok P nt a t h (Then Q K)) (k2 : ∀ t h, Q t h → Ok P nt b t h K) : Ok P nt (.seq a b) t h K :=
  Ok.seq (k1.mono fun x t h hq => by
    cases x with
    | normal => exact k2 t h hq
    | exit id => exact hq
    | ret => exact hq)
theorem Stay.fl {h h' : H} {p : B → Prop} (s : Stay p h h') (hf : B.val h.floor ≤ B.val h.next) : B.val h'.floor ≤ B.val h'.next := by rw [s.floor]; exact Nat.le_trans hf s.next
section
variable {P : Program} {S : Spec} {l : List CO} {t : F} {h : H} {K : F → H → Prop}
end
end Go.Ev

set_option linter.all false
namespace Go.Ev
open Go
section
variable {P : Program} {S : Spec} {l : List CO} {t : F} {h : H} {K : F → H → Prop}
/-- a literal of one element -/
theorem Ops.lit1 {n el : Nat} {b : Bool} {o : O} {y z : V} (e1 : oV o t = y) (h1 : knownV y = true) (h2 : cells y = [y]) (hf : B.val h.floor ≤ B.val h.next)
    (k : ∀ h' id, Stay nowhere h h' → id = h.next → B.val h'.next = B.val h.next + 1 → Own h' id [y] → Ops P S l (put n (.l id 0 0 1 1 (some 1)) t) h' K) : Ops P S (.mk .none (.some (slOf n)) b (.mk (doBuildSlice el 1 [z] [Pt.mk 0 1 o])) :: l) t h K := by
  obtain ⟨h', a1, a2, a3, a4⟩ := alloc_own el [y] h (by show 1 < 2 ^ 37; decide) hf
  refine Ops.op (v := .l h.next 0 0 1 1 (some 1)) (h1 := h') (fun k => ?_) (k _ h.next a2 rfl a4 a3)
  show oK o t (fillP 0 1 (fun t cs k => k cs) t [z] fun cs => alloc el cs h fun id h => k (.l id 0 0 1 cs.length (some 1)) h) = _
  rw [oK_eq, e1]
  unfold fillP
  rw [h1, ifK_true, h2]
  show alloc el [y] h (fun id h => k (.l id 0 0 1 1 (some 1)) h) = _
  rw [a1]
theorem Ops.app1 {n el : Nat} {b : Bool} {s x : O} {id : B} {y v : V} {xs : List V} (e1 : oV s t = v) (e2 : oV x t = .l id 0 0 1 1 (some 1)) (hr : Row h id 0 0 [y]) (hb : Buf h el 1 v xs) (hf : B.val h.floor ≤ B.val h.next) (h1 : oneV y = true) (hl : xs.length + 1 ≤ 1048576)
    (k : ∀ v' h', Buf h' el 1 v' (xs ++ [y]) → Stay (isOf v) h h' → (∀ i, isOf v' i → isOf v i ∨ B.val h.next ≤ B.val i) → Ops P S l (put n v' t) h' K) : Ops P S (.mk .none (.some (slOf n)) b (.mk (doAppend el 1 s x)) :: l) t h K := by
  obtain ⟨v', h', a1, a2, a3, a4⟩ := append_buf (vs := [y]) (n := 1) hb hf (Nat.le_refl _) rfl (by show Bool.rec false true (oneV y) = true; rw [h1]) hl
  exact Ops.op (fun k => app1_eq (n := n) e1 e2 hr a1 _ k) (k v' h' a2 a3 a4)
end
theorem Stay.past' {p : B → Prop} {a b c : H} (x : Stay nowhere a b) (y : Stay p b c) (h : ∀ id, p id → B.val a.next ≤ B.val id) : Stay nowhere a c :=
  ⟨y.floor.trans x.floor, Nat.le_trans x.next y.next, fun id h1 _ => (y.get id (Nat.lt_of_lt_of_le h1 x.next) fun hp => absurd (h id hp) (Nat.not_le.2 h1)).trans (x.get id h1 fun h => h)⟩
/-- a slice of ints -/
def Il (h : H) (v : V) (xs : List Int) : Prop := Lst h v (xs.map (V.i .i64))
theorem Il.grow {h h' : H} {v : V} {xs : List Int} (a : Il h v xs) (s : Stay nowhere h h') : Il h' v xs := Lst.grow a s
theorem Il.len {h0 : H} {v : V} {xs : List Int} (a : Il h0 v xs) (k : Nat → Bool) : lenV v k = k xs.length := by rw [Lst.len a]; simp
theorem Il.idx {h0 : H} {v : V} {xs : List Int} {i : Nat} (a : Il h0 v xs) (hi : i < xs.length) (k : V → Bool) : idxV 1 v i k = k (.p (lid v) (lg v) (loff v + i) (lfin v)) := Lst.idx a (by simpa using hi) k
theorem Il.rd {h : H} {v : V} {xs : List Int} {i : Nat} (a : Il h v xs) (hi : i < xs.length) (k : V → Bool) : load1 h (lid v) (lg v) (loff v + i) (lfin v) k = k (.i .i64 (xs.getD i 0)) :=
  load_lst a (by simp [hi]) k
/-- .. of the call's own, behind 'lo' -/
structure Ib (h : H) (lo el : Nat) (v : V) (xs : List Int) : Prop where
  buf : Buf h el 1 v (xs.map (V.i .i64))
  own : ∀ i, isOf v i → lo ≤ B.val i
theorem Ib.nil (h : H) (lo el : Nat) : Ib h lo el .l0 [] := ⟨Buf.nil h el 1, fun i hi => by obtain ⟨_, _, _, _, _, e⟩ := hi; cases e⟩
theorem Ib.grow {h h' : H} {lo el : Nat} {v : V} {xs : List Int} (a : Ib h lo el v xs) (s : Stay nowhere h h') : Ib h' lo el v xs := ⟨a.buf.grow s, a.own⟩
/-- append(v, y) with its literal -/
theorem Ops.push {P : Program} {S : Spec} {l : List CO} {t : F} {h : H} {K : F → H → Prop} {n m el lo : Nat} {b b' : Bool} {s o : O} {z v : V} {y : Int} {xs : List Int} (hnm : n < 512) (hs : s ≠ .t (slOf m)) (e1 : oV s t = v) (e2 : oV o t = .i .i64 y) (a : Ib h lo el v xs) (hf : B.val h.floor ≤ B.val h.next) (hlo : lo ≤ B.val h.next) (hl : xs.length + 1 ≤ 1048576) (hm : m < 512) (e3 : ∀ u, oV s (put m u t) = v)
    (k : ∀ v' h' u, Ib h' lo el v' (xs ++ [y]) → Stay (isOf v) h h' → Ops P S l (put n v' (put m u t)) h' K) :
    Ops P S (.mk .none (.some (slOf m)) b (.mk (doBuildSlice el 1 [z] [Pt.mk 0 1 o])) :: .mk .none (.some (slOf n)) b' (.mk (doAppend el 1 s (.t (slOf m)))) :: l) t h K := by
  refine Ops.lit1 e2 rfl rfl hf fun h1 id s1 e n1 o1 => ?_
  refine Ops.app1 (e3 _) (by rw [oV_t, get_put _ _ _ _ hm hm, if_pos rfl]) o1.row (a.buf.grow s1) (s1.fl hf) rfl (by simpa using hl) fun v' h' b1 s2 hv => ?_
  refine k v' h' _ ⟨by simpa using b1, fun i hi => ?_⟩ ?_
  · rcases hv i hi with h2 | h2
    · exact a.own i h2
    · have := s1.next; omega
  · refine ⟨s2.floor.trans s1.floor, Nat.le_trans s1.next s2.next, fun id' h1' h2 => (s2.get id' (Nat.lt_of_lt_of_le h1' s1.next) h2).trans (s1.get id' h1' fun h => h)⟩
end Go.Ev

set_option linter.all false
namespace Go.Ev
open Go
section
variable {P : Program} {S : Spec} {l : List CO} {t : F} {h : H} {K : F → H → Prop}
end
/-- the front of an own block, as a slice -/
theorem Own.front {h : H} {id : B} {xs ys : List V} {fin : Nat} (o : Own h id (xs ++ ys)) (hf : xs.length ≤ fin) (cap : Option Nat) : Lst h (.l id 0 0 xs.length fin cap) xs := by
  have r := o.row
  obtain ⟨blk, h1, h2, h3, h4, h5, h6, h7⟩ := o
  refine .inr ⟨id, 0, 0, fin, cap, rfl, by omega, h6, fun _ => ⟨blk, h1, by omega⟩, fun i y hy => r.2 i y ?_⟩
  have : i < xs.length := by
    rcases Nat.lt_or_ge i xs.length with h | h
    · exact h
    · rw [List.getElem?_eq_none h] at hy; cases hy
  rw [List.getElem?_append_left this]
  exact hy
end Go.Ev

set_option linter.all false
namespace Go.Ev
open Go
/-- a text, as a value -/
def sv (l : List UInt8) : V := .s l.length (pk l)
theorem sv_nil : V.s 0 0 = sv [] := rfl
theorem vS_sv (l : List UInt8) (k : Nat → Nat → Bool) : vS (sv l) k = k l.length (pk l) := rfl
theorem natK_nn {z : Int} (h : 0 ≤ z) (k : Nat → Bool) : natK z k = k z.toNat := by
  obtain ⟨n, rfl⟩ := Int.eq_ofNat_of_zero_le h
  rfl
/-- a byte, as a value -/
def bv (c : UInt8) : V := .i .u8 (c.toNat : Int)
theorem bv_ofNat (n : Nat) : V.i .u8 ((n % 256 : Nat) : Int) = bv (UInt8.ofNat n) := by
  unfold bv; simp
theorem one_3 (u v w : V) : one [u, v, w] = .tu [u, v, w] := rfl
theorem res_3 (n m o : Nat) (t : F) (h : H) (k : List V → Bool) : resK [Rs.tmp (slOf n), Rs.tmp (slOf m), Rs.tmp (slOf o)] t h k = k [get n t, get m t, get o t] := by
  show forceV (sGet (slOf n) t) (fun v => forceV (sGet (slOf m) t) fun u => forceV (sGet (slOf o) t) fun w => k [v, u, w]) = _
  rw [forceV_eq, forceV_eq, forceV_eq]; rfl
section
variable (cf : CallF) (t : F) (h : H) (k : V → H → Bool) (o x y : O)
noncomputable def catV (a b : V) (k : V → Bool) : Bool := vS a fun la na => vS b fun lb nb => ifK (Nat.ble (Nat.add la lb) 1048576) fun _ => k (.s (Nat.add la lb) (Nat.add (Nat.mul na (Nat.pow 256 lb)) nb))
theorem ev_concat : doConcat x y cf t h k = catV (oV x t) (oV y t) fun v => k v h := by simp only [doConcat, oE_eq, fN_eq]; rfl
theorem catV_sv {a b : List UInt8} (hl : a.length + b.length ≤ 1048576) (k : V → Bool) : catV (sv a) (sv b) k = k (sv (a ++ b)) := by
  have h1 : Nat.ble (Nat.add a.length b.length) 1048576 = true := by rw [Nat.ble_eq]; exact hl
  unfold catV
  rw [vS_sv, vS_sv, h1, ifK_true]
  unfold sv
  rw [List.length_append, pk_append]; rfl
noncomputable def sixV (v : V) (i : Nat) (k : V → Bool) : Bool := vS v fun l n => ifK (Nat.ble (Nat.succ i) l) fun _ => k (.i .u8 (.ofNat (Nat.mod (Nat.div n (Nat.pow 256 (Nat.sub (Nat.sub l 1) i))) 256)))
theorem ev_sindex : doSIndex x y cf t h k = vI (oV y t) fun _ n => natK n fun n => sixV (oV x t) n fun v => k v h := by
  have no : ∀ u : V, (vI u fun _ n => natK n fun _ => false) = false := by
    intro u
    cases u <;> first | rfl | (rename_i kd n; cases n <;> rfl)
  simp only [doSIndex, oE_eq]
  generalize oV x t = v
  generalize oV y t = u
  have hn : ∀ w : V, (∀ k, vS w k = false) → (vI u fun _ n => natK n fun n => sixV w n fun p => k p h) = false := by
    intro w hw
    have : (fun (_ : IntKind) (n : Int) => natK n fun n => sixV w n fun p => k p h) = fun _ n => natK n fun _ => false := by
      funext _ n; congr 1; funext n; exact hw _
    rw [this]; exact no u
  cases v with
  | s l n => simp only [vS_s, fN_eq]; rfl
  | _ => rw [hn _ fun _ => rfl]; rfl
theorem sixV_sv {l : List UInt8} {i : Nat} (hi : i < l.length) (k : V → Bool) : sixV (sv l) i k = k (.i .u8 ((l.getD i 0).toNat : Int)) := by
  have h1 : Nat.ble (Nat.succ i) l.length = true := by rw [Nat.ble_eq]; exact hi
  unfold sixV
  rw [vS_sv, h1, ifK_true]
  have e : l.getD i 0 = l[i] := by simp [List.getD, hi]
  have := pk_get l hi
  rw [e, this]
  rfl
noncomputable def ssV (v : V) (a b : Nat) (k : V → Bool) : Bool := vS v fun l n => ifK (Nat.ble a b) fun _ => ifK (Nat.ble b l) fun _ => k (.s (Nat.sub b a) (Nat.mod (Nat.div n (Nat.pow 256 (Nat.sub l b))) (Nat.pow 256 (Nat.sub b a))))
noncomputable def ssaV (v : V) (a : Nat) (k : V → Bool) : Bool := vS v fun l n => ifK (Nat.ble a l) fun _ => k (.s (Nat.sub l a) (Nat.mod (Nat.div n (Nat.pow 256 (Nat.sub l l))) (Nat.pow 256 (Nat.sub l a))))
theorem no1 (u : V) : (vI u fun _ n => natK n fun _ => false) = false := by
  cases u <;> first | rfl | (rename_i kd n; cases n <;> rfl)
theorem ev_ss2 (a b : O) : doSSlice x (some a) (some b) cf t h k = vI (oV a t) fun _ p => natK p fun p => vI (oV b t) fun _ q => natK q fun q => ssV (oV x t) p q fun v => k v h := by
  simp only [doSSlice, oE_eq]
  have hb : ∀ (o : O) (d : Nat) (k : Nat → Bool), boundK (some o) d t k = vI (oV o t) fun _ n => natK n k := fun o d k => by show oE o t _ = _; rw [oE_eq]
  simp only [hb, fN_eq]
  generalize oV x t = v
  have hn : ∀ w : V, (∀ k, vS w k = false) → (vI (oV a t) fun _ p => natK p fun p => vI (oV b t) fun _ q => natK q fun q => ssV w p q fun v => k v h) = false := by
    intro w hw
    have e2 : ∀ p q, ssV w p q (fun v => k v h) = false := fun p q => hw _
    simp only [e2, no1]
  cases v with
  | s l n => simp only [vS_s]; rfl
  | _ => rw [hn _ fun _ => rfl]; rfl
theorem ev_ss1 (b : O) : doSSlice x none (some b) cf t h k = vI (oV b t) fun _ q => natK q fun q => ssV (oV x t) 0 q fun v => k v h := by
  simp only [doSSlice, oE_eq]
  have hb : ∀ (o : O) (d : Nat) (k : Nat → Bool), boundK (some o) d t k = vI (oV o t) fun _ n => natK n k := fun o d k => by show oE o t _ = _; rw [oE_eq]
  have h0 : ∀ (d : Nat) (k : Nat → Bool), boundK none d t k = k d := fun _ _ => rfl
  simp only [hb, h0, fN_eq]
  generalize oV x t = v
  have hn : ∀ w : V, (∀ k, vS w k = false) → (vI (oV b t) fun _ q => natK q fun q => ssV w 0 q fun v => k v h) = false := by
    intro w hw
    have e2 : ∀ p q, ssV w p q (fun v => k v h) = false := fun p q => hw _
    simp only [e2, no1]
  cases v with
  | s l n => simp only [vS_s]; rfl
  | _ => rw [hn _ fun _ => rfl]; rfl
theorem ev_ssa (a : O) : doSSlice x (some a) none cf t h k = vI (oV a t) fun _ p => natK p fun p => ssaV (oV x t) p fun v => k v h := by
  simp only [doSSlice, oE_eq]
  have hb : ∀ (o : O) (d : Nat) (k : Nat → Bool), boundK (some o) d t k = vI (oV o t) fun _ n => natK n k := fun o d k => by show oE o t _ = _; rw [oE_eq]
  have h0 : ∀ (d : Nat) (k : Nat → Bool), boundK none d t k = k d := fun _ _ => rfl
  simp only [hb, h0, fN_eq]
  generalize oV x t = v
  have hn : ∀ w : V, (∀ k, vS w k = false) → (vI (oV a t) fun _ q => natK q fun q => ssaV w q fun v => k v h) = false := by
    intro w hw
    have e2 : ∀ q, ssaV w q (fun v => k v h) = false := fun q => hw _
    simp only [e2, no1]
  cases v with
  | s l n =>
    simp only [vS_s]
    have : ∀ p, ssaV (.s l n) p (fun v => k v h) = ifK (Nat.ble p l) fun _ => k (.s (Nat.sub l p) (Nat.mod (Nat.div n (Nat.pow 256 (Nat.sub l l))) (Nat.pow 256 (Nat.sub l p)))) h := fun _ => rfl
    simp only [this]
    have e : ∀ p, (ifK (Nat.ble p l) fun _ => ifK (Nat.ble l l) fun _ => k (.s (Nat.sub l p) (Nat.mod (Nat.div n (Nat.pow 256 (Nat.sub l l))) (Nat.pow 256 (Nat.sub l p)))) h) = ifK (Nat.ble p l) fun _ => k (.s (Nat.sub l p) (Nat.mod (Nat.div n (Nat.pow 256 (Nat.sub l l))) (Nat.pow 256 (Nat.sub l p)))) h := fun p => by
      have : Nat.ble l l = true := by rw [Nat.ble_eq]; exact Nat.le_refl _
      rw [this]; rfl
    simp only [e]
  | _ => rw [hn _ fun _ => rfl]; rfl
theorem ssV_sv {l : List UInt8} {a b : Nat} (h1 : a ≤ b) (h2 : b ≤ l.length) (k : V → Bool) : ssV (sv l) a b k = k (sv ((l.take b).drop a)) := by
  have e1 : Nat.ble a b = true := by rw [Nat.ble_eq]; exact h1
  have e2 : Nat.ble b l.length = true := by rw [Nat.ble_eq]; exact h2
  unfold ssV
  rw [vS_sv, e1, ifK_true, e2, ifK_true]
  unfold sv
  rw [pk_part l h1 h2, List.length_drop, List.length_take, Nat.min_eq_left h2]; rfl
theorem ssaV_sv {l : List UInt8} {a : Nat} (h1 : a ≤ l.length) (k : V → Bool) : ssaV (sv l) a k = k (sv (l.drop a)) := by
  have := ssV_sv h1 (Nat.le_refl _) k
  rw [List.take_length] at this
  rw [← this]
  have e1 : Nat.ble a l.length = true := by rw [Nat.ble_eq]; exact h1
  have e2 : Nat.ble l.length l.length = true := by rw [Nat.ble_eq]; exact Nat.le_refl _
  unfold ssV ssaV
  rw [vS_sv, vS_sv, e1, ifK_true, ifK_true, e2, ifK_true]
noncomputable def scV (f : Nat → Nat → Nat → Nat → Bool) (a b : V) (k : V → Bool) : Bool := vS a fun la na => vS b fun lb nb => k (.b (f la na lb nb))
theorem ev_scmp (f : Nat → Nat → Nat → Nat → Bool) : doSCmp f x y cf t h k = scV f (oV x t) (oV y t) fun v => k v h := by simp only [doSCmp, oE_eq, fB_eq]; rfl
theorem eqS_sv (a b : List UInt8) : eqS a.length (pk a) b.length (pk b) = decide (a = b) := by
  have e : ∀ {x y : Bool}, (x = true ↔ y = true) → x = y := by intro x y h; cases x <;> cases y <;> simp_all
  apply e
  rw [decide_eq_true_iff]
  have := pk_eq a b
  unfold eqS
  rw [← this]
  exact beq_iff_eq
noncomputable def cmV (a b : V) (k : V → Bool) : Bool := vS a fun la na => vS b fun lb nb => k (.i .i64 (cmpI (eqS la na lb nb) (ltS la na lb nb)))
theorem ev_cmpS : doCmpS x y cf t h k = cmV (oV x t) (oV y t) fun v => k v h := by simp only [doCmpS, oE_eq, fC_eq]; rfl
theorem cmV_sv (a b : List UInt8) (k : V → Bool) : cmV (sv a) (sv b) k = k (.i .i64 (cmpI (decide (a = b)) (Op.bytesLess a b))) := by
  unfold cmV; rw [vS_sv, vS_sv, eqS_sv, bytesLess_pk]
theorem scV_eq (a b : List UInt8) (k : V → Bool) : scV eqS (sv a) (sv b) k = k (.b (decide (a = b))) := by
  unfold scV; rw [vS_sv, vS_sv, eqS_sv]
theorem scV_ne (a b : List UInt8) (k : V → Bool) : scV (fun a b c d => !eqS a b c d) (sv a) (sv b) k = k (.b (!decide (a = b))) := by
  unfold scV; rw [vS_sv, vS_sv]; simp only [eqS_sv]
theorem scV_lt (a b : List UInt8) (k : V → Bool) : scV ltS (sv a) (sv b) k = k (.b (Op.bytesLess a b)) := by
  unfold scV; rw [vS_sv, vS_sv, bytesLess_pk]
theorem ev_shift (f : IntKind → Int → Nat → (V → Bool) → Bool) : doShift f x y cf t h k = vI (oV x t) fun kd a => vI (oV y t) fun _ b => natK b fun n => f kd a (min n kd.bits) fun v => k v h := by simp only [doShift, oE_eq]
theorem f_shl (kd : IntKind) (a : Int) (n : Nat) (k : V → Bool) : shlF kd a n k = k (.i kd (kd.wrap (a * ((2 ^ n : Nat) : Int)))) := wrapF_eq _ _ _
theorem ev_idxArr (len size : Nat) : doIndexAddrArr len size o x cf t h k = vP (oV o t) fun id g off fin => vI (oV x t) fun _ n => natK n fun n => ifK (Nat.ble (Nat.succ n) len) fun _ => k (.p id g (off + n * size) fin) h := by
  simp only [doIndexAddrArr, oE_eq, fN_eq]; rfl
theorem arrIx {i n : Nat} (h : i < n) (k : Unit → Bool) : ifK (Nat.ble (Nat.succ i) n) k = k () := by
  have : Nat.ble (Nat.succ i) n = true := by rw [Nat.ble_eq]; exact h
  rw [this]; rfl
theorem ev_sliceArr (n size : Nat) (a : O) : doSliceArr n size x (some a) none cf t h k = vP (oV x t) fun id g off fin => vI (oV a t) fun _ p => natK p fun p => ifK (Nat.ble p n) fun _ => sliceC size id g off n fin n p n fun v => k v h := by
  simp only [doSliceArr, oE_eq]
  have hb : ∀ (o : O) (d : Nat) (k : Nat → Bool), boundK (some o) d t k = vI (oV o t) fun _ n => natK n k := fun o d k => by show oE o t _ = _; rw [oE_eq]
  have h0 : ∀ (d : Nat) (k : Nat → Bool), boundK none d t k = k d := fun _ _ => rfl
  simp only [hb, h0]
theorem sliceC_mid {size : Nat} {id : B} {g off len fin c a b : Nat} (hcM : c < 18446744073709551616) (h1 : b ≤ c) (h2 : a < c) (k : V → Bool) : sliceC size id g off len fin c a b k = k (.l id g (off + a * size) (b - a) fin (some (c - a))) := by
  have e1 : Nat.ble b c = true := by rw [Nat.ble_eq]; exact h1
  have e2 : Nat.beq a c = false := by
    cases hx : Nat.beq a c with
    | false => rfl
    | true => have := Nat.eq_of_beq_eq_true hx; omega
  have e0 : Nat.ble (Nat.succ c) 18446744073709551616 = true := by rw [Nat.ble_eq]; exact hcM
  unfold sliceC
  rw [e0, ifK_true, e1, ifK_true, e2]
  show fN (Nat.sub b a) _ = _
  rw [fN_eq, fN_eq, fN_eq]; rfl
theorem ifBle {a b : Nat} (h : a ≤ b) (k : Unit → Bool) : ifK (Nat.ble a b) k = k () := by
  have : Nat.ble a b = true := by rw [Nat.ble_eq]; exact h
  rw [this]; rfl
noncomputable def b2sV (h : H) (v : V) (k : V → Bool) : Bool := vL v (fun _ => k (.s 0 0)) fun id g off len fin _ => loadZ len len h id g off fin fun vs => packK vs 0 fun n => k (.s len n)
theorem ev_b2s : doB2S x cf t h k = b2sV h (oV x t) fun v => k v h := by simp only [doB2S, oE_eq]; rfl
theorem pack_bv : ∀ (l : List UInt8) (acc : Nat) (k : Nat → Bool), packK (l.map bv) acc k = k (acc * 256 ^ l.length + pk l)
  | [], acc, k => by show fN acc k = _; rw [fN_eq]; simp [pk]
  | c :: l, acc, k => by
    show byteK (bv c) (fun c => fN (Nat.add (Nat.mul acc 256) c) fun acc => packK (l.map bv) acc k) = _
    have hb : ∀ k', byteK (bv c) k' = k' c.toNat := fun k' => by
      have h2 : Nat.ble c.toNat 255 = true := by rw [Nat.ble_eq]; have := c.toNat_lt; omega
      unfold byteK bv
      rw [vI_i, kdEq_self, ifK_true]
      show natK (Int.ofNat c.toNat) _ = _
      rw [natK_ofNat, h2, ifK_true]
    rw [hb, fN_eq, pack_bv l]
    congr 1
    show (acc * 256 + c.toNat) * 256 ^ l.length + pk l = acc * 256 ^ (l.length + 1) + (c.toNat * 256 ^ l.length + pk l)
    rw [Nat.add_mul, Nat.pow_succ, Nat.mul_assoc, Nat.mul_comm 256, Nat.add_assoc]
theorem b2s_lst {h : H} {v : V} {l : List UInt8} (a : Lst h v (l.map bv)) (hne : l ≠ []) (k : V → Bool) : b2sV h v k = k (sv l) := by
  rcases a with ⟨rfl, e⟩ | ⟨id, g, off, fin, cap, rfl, h2, h3, h4⟩
  · simp at e; exact absurd e hne
  · show loadZ (l.map bv).length (l.map bv).length h id g off fin (fun vs => packK vs 0 fun n => k (.s (l.map bv).length n)) = _
    rw [loadZ_pos (by rw [List.length_map]; exact List.length_pos_iff.2 hne), loadN_row h4 rfl (by simpa using hne) h2, pack_bv]
    unfold sv
    simp
end
section
variable {P : Program} {S : Spec} {l : List CO} {t : F} {h : H} {K : F → H → Prop}
end
/-- the end of an own block, as a slice -/
theorem Own.back {h : H} {id : B} {xs : List V} {a fin : Nat} (o : Own h id xs) (ha : a ≤ xs.length) (hf : xs.length ≤ fin) (cap : Option Nat) : Lst h (.l id 0 a (xs.length - a) fin cap) (xs.drop a) := by
  have r := o.row
  obtain ⟨blk, h1, h2, h3, h4, h5, h6, h7⟩ := o
  refine .inr ⟨id, 0, a, fin, cap, by rw [List.length_drop], by rw [List.length_drop]; omega, h6, fun _ => ⟨blk, h1, by omega⟩, fun i y hy => ?_⟩
  rw [List.getElem?_drop] at hy
  have := r.2 (a + i) y hy
  rwa [Nat.zero_add] at this
end Go.Ev

set_option linter.all false
namespace Go.Ev
open Go Go.RowKit Go.WideShapes Go.ChangeShapes Go.ChangeAt
section
variable {H : Type} {enc : TypeId × Value → H}
theorem trodAll_below {P : Program} (hl : laidOutB P = true) {W W' : World} (hb : Below W.heap.size W W') (sp : Nat → Bool) : ∀ (ts : List TypeId) (vs : List Value) (ds : List (DataW H)) (ps : List MemPlace),
    ts.all (fun t => P.readableRec t && decide (t < P.types.size)) = true → DataW.TrodAll enc P W 0 (fun _ => true) true ts vs ds ps → (∀ x ∈ ps, x.block < W.heap.size) → (∀ x ∈ ps, sp x.block = true) → DataW.TrodAll enc P W' 0 sp true ts vs ds ps
  | [], [], [], ps, _, h, _, _ => h
  | t :: ts, v :: vs, d :: ds, ps, ht, h, hlt, hsp => by
    obtain ⟨p, q, h1, h2, rfl⟩ := h
    simp only [List.all_cons, Bool.and_eq_true] at ht
    refine ⟨p, q, ?_, trodAll_below hl hb sp ts vs ds q (by simpa using ht.2) h2 (fun x hx => hlt x (by simp [hx])) (fun x hx => hsp x (by simp [hx])), rfl⟩
    exact WideElems.Trod_stays hl ht.1.1 (of_decide_eq_true ht.1.2) h1 (fun x hx => hb.same (hlt x (by simp [hx]))) (fun x hx => hsp x (by simp [hx]))
  | [], [], _ :: _, _, _, h, _, _ => h.elim
  | [], _ :: _, _, _, _, h, _, _ => by cases h
  | _ :: _, [], _, _, _, h, _, _ => by cases h
  | _ :: _, _ :: _, [], _, _, h, _, _ => by cases h
theorem law_lifted {C : Checked} {os : Os} {f : FuncId} {fn : Func} {s : ChangeSpec} {conds : List PathCond} {tb : TypeId}
    (own : ownKnob C.prog.godebug = none) (started : os.Started) (noInit : C.prog.inits.idxOf? f = none) (hfn : C.prog.funcs[f]? = some fn)
    (witness : ∃ (w : World) (tape : Tape) (i : Input), w.os = os ∧ (w.forCall tape i).Shaped C.prog ∧ i.vars = [] ∧ Input.okWide C.prog (w.forCall tape i) .any w.heap.size f i ∧
      s.pre6 enc C.prog fn conds false (w.forCall tape i).memory i.args ∧ ({} : Assume).holds C.prog (lone (Frame.enter C.prog f i.args .normal) [] (w.forCall tape i)))
    (hv : s.vars = []) (hs : ∀ ds : List (DataW H), ds.length = fn.params.toList.length → s.fn H ds = { results := [.lit (.bool true)], args := ds })
    (hl : laidOutB C.prog = true) (hr : fn.params.toList.all (fun t => C.prog.readableRec t && decide (t < C.prog.types.size)) = true)
    (hres : fn.resultTypes = #[tb]) (hb : C.prog.underlying tb = some .bool)
    (run : ∀ (W : World) (base : Nat) (args : Array Value) (ds : List (DataW H)) (p : List MemPlace), (∀ (j : Nat) t v, fn.params[j]? = some t → args[j]? = some v → Value.okWide C.prog W .any base t v) → W.ShapedOpen C.prog → DataW.TrodAll enc C.prog W 0 (fun _ => true) true fn.params.toList args.toList ds p →
      Calls C.prog f args W fun e w' => e = .returned (.bool true) ∧ Below W.heap.size W w') :
    ReturnsInHanded {} C os f .any (s.pre6 enc C.prog fn conds false) (s.post enc C.prog fn false true false false) := by
  refine returnsInHanded_of_change_shaped own started noInit hfn witness ?_
  intro W base args ds gs before hval0 hW hcnd _ hopen _
  have hval : ∀ (j : Nat) t v, fn.params[j]? = some t → args[j]? = some v → Value.okWide C.prog W .any base t v := hval0
  have hW' := hW
  obtain ⟨p, q, hA, hV, rfl, hfz, hnd⟩ := hW
  rw [hv] at hV
  obtain ⟨rfl, rfl⟩ := trodVars_none hV
  have hlen : ∀ (ts : List TypeId) (vs : List Value) (ds : List (DataW H)) (ps : List MemPlace), DataW.TrodAll enc C.prog W 0 (fun _ => true) true ts vs ds ps → ds.length = ts.length := by
    intro ts
    induction ts with
    | nil => intro vs ds ps h; cases vs <;> cases ds <;> first | rfl | cases h
    | cons t ts ih =>
      intro vs ds ps h
      cases vs with
      | nil => cases h
      | cons v vs =>
        cases ds with
        | nil => cases h
        | cons d ds => obtain ⟨p, q, h1, h2, rfl⟩ := h; simp [ih vs ds q h2]
  have hd := hlen _ _ _ _ hA
  have hspec : s.fn H (ds ++ []) = { results := [.lit (.bool true)], args := ds } := by rw [List.append_nil]; exact hs ds hd
  refine (run W base args ds p hval hopen hA).mono fun e W' ⟨he, hg⟩ => ?_
  subst he
  simp only [List.append_nil] at hW'
  have hlt : ∀ x ∈ p, x.block < W.heap.size := fun x hx => by simpa using hW'.lt x (by simpa using hx)
  refine ⟨_, rfl, post_kept (pa := p) (pv := []) hg (by simpa using hW') (fun b sp hd => ?_) (fun sp hsp => ?_) (fun sp hsp => ?_) rfl (ok_one hres rfl (okWide_bool_mk hb _))⟩
  · rw [hspec, hres]
    exact trodAll_cons_mk (shut_bool hb _) trodAll_mk0
  · rw [hspec]
    exact trodAll_below hl hg sp _ _ _ _ hr hA hlt (fun x hx => hsp x (by simpa using hx))
  · rw [hspec, hv]; rfl
end
/-- what a call's contract at the state that it begins in says of the call -/
theorem calls_true {P : Program} {f : FuncId} {W : World} {h : H} (s : Start W h) {vs : List V} {args : Array Value} (ha : LRel (emb0 W) vs args.toList) (k : FnOk P f vs h fun y _ => y = .b true) : Calls P f args W fun e w' => e = .returned (.bool true) ∧ Below W.heap.size W w' := by
  obtain ⟨y, h', ⟨_, _, r⟩, rfl⟩ := k
  have := (r (emb0 W) W W args.toList ha s.rel).2
  rw [show args.toList.toArray = args by simp] at this
  refine this.mono fun e w' he => ?_
  obtain ⟨x, rfl, ρ', _, x2, x3⟩ := he
  have x2' : x = .bool true := x2
  rw [x2']
  exact ⟨rfl, x3.same.below⟩
end Go.Ev

set_option linter.all false
namespace Go.Ev
open Go Go.RowKit Go.WideShapes Go.ChangeShapes Go.ChangeAt Go.Deep
theorem cell_add {W : World} {a : Addr} {i : Nat} {x : Value} (h : W.cell? (a.add i) = some x) : W.cell? ⟨a.block, a.off + i, none⟩ = some x := by
  have hsp := World.cell?_spot h
  have e : a.add i = ⟨a.block, a.off + i, none⟩ := by
    unfold Addr.add at hsp ⊢
    split
    · rename_i hi
      rw [if_pos hi] at hsp
      subst hi
      obtain ⟨b, o, sp⟩ := a
      have : sp = none := hsp
      rw [this]; rfl
    · rfl
  rw [← e]; exact h
section
variable {H' : Type} {enc : TypeId × Value → H'} {P : Program}
/-- a slice of one-cell elements: its elements' values -/
theorem maxLen_lt : maxLen < 18446744073709551616 := by decide
end
end Go.Ev

set_option linter.all false
namespace Go.Ev
open Go Go.RowKit Go.WideShapes Go.ChangeShapes Go.ChangeAt Go.Deep
theorem absV_str (W : World) (s : ByteArray) : absV W (.string s) = sv s.data.toList := by
  unfold absV sv
  simp
theorem wf_i64 {n : Int} (h : (Lit.int .i64 n).wf = true) : -9223372036854775808 ≤ n ∧ n ≤ 9223372036854775807 := by
  simp only [Lit.wf, IntKind.has, IntKind.min, IntKind.max, IntKind.signed, IntKind.bits] at h
  simp at h
  omega
theorem u16_nat {a : Int} (h : (Lit.int .u16 a).wf = true) : ∃ n : Nat, n ≤ 65535 ∧ a = (n : Int) := by
  have h' := h
  simp only [Lit.wf, IntKind.has, IntKind.min, IntKind.max, IntKind.signed, IntKind.bits] at h'
  simp at h'
  exact ⟨a.toNat, by omega, by omega⟩
theorem u8_byte {a : Int} (h : (Lit.int .u8 a).wf = true) : ∃ c : UInt8, a = (c.toNat : Int) := by
  have h' := h
  simp only [Lit.wf, IntKind.has, IntKind.min, IntKind.max, IntKind.signed, IntKind.bits] at h'
  simp at h'
  refine ⟨UInt8.ofNat a.toNat, ?_⟩
  rw [UInt8.toNat_ofNat', Nat.mod_eq_of_lt (by omega)]; omega
theorem str_len {s : ByteArray} (h : s.size ≤ maxLen) : s.data.toList.length ≤ 9223372036854775807 := by
  have : s.data.toList.length = s.size := by simp
  unfold maxLen at h
  omega
theorem maxLen_le {n : Nat} (h : n ≤ maxLen) : n ≤ 9223372036854775807 := by unfold maxLen at h; omega
section
variable {H' : Type} {enc : TypeId × Value → H'} {P : Program}
end
end Go.Ev
