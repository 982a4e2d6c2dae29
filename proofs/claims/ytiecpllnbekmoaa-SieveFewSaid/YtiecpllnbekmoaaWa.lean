/-
  Regions as relations: each operation with whatever calls are sound; from there to the model.
-/
import Derived.Test.YtiecpllnbekmoaaEvM
set_option linter.all false
namespace Go.Ev
open Go

/-- what one operation makes of a state -/
def RunRel (P : Program) (r : CR) (t : F) (h : H) (v : V) (h' : H) : Prop := ∃ cf, CfOk P cf ∧ ∀ k, runK r cf t h k = k v h'
def OpRel (P : Program) (o : CO) (t : F) (h : H) (t1 : F) (h1 : H) : Prop := match o with
  | .mk g d _ r => ∃ b, (∀ k, guardK g t k = k b) ∧ ((b = true ∧ ∃ v, RunRel P r t h v h1 ∧ ∀ k, putD d v t k = k t1) ∨ (b = false ∧ h1 = h ∧ ∀ k, putD d (.tu []) t k = k t1))
def OpsRel (P : Program) : List CO → F → H → F → H → Prop
  | [], t, h, t', h' => t' = t ∧ h' = h
  | o :: l, t, h, t', h' => ∃ t1 h1, OpRel P o t h t1 h1 ∧ OpsRel P l t1 h1 t' h'
def DrRel (P : Program) (o : CO) (t : F) (h : H) (t1 : F) (h1 : H) : Prop := match o with
  | .mk g d true r => OpRel P (.mk g d true r) t h t1 h1
  | .mk g d false r => ∃ b, (∀ k, guardK g t k = k b) ∧ ((b = true ∧ ∃ v h2, RunRel P r t (reFloor h) v h2 ∧ h1 = unFloor h h2 ∧ ∀ k, putD d v t k = k t1) ∨ (b = false ∧ h1 = h ∧ ∀ k, putD d (.tu []) t k = k t1))
def DrsRel (P : Program) : List CO → F → H → F → H → Prop
  | [], t, h, t', h' => t' = t ∧ h' = h
  | o :: l, t, h, t', h' => ∃ t1 h1, DrRel P o t h t1 h1 ∧ DrsRel P l t1 h1 t' h'

theorem cfSome (P : Program) : CfOk P (cfS P fun _ _ _ _ _ => True) := cfS_ok P _
theorem opRel_run {P : Program} {o : CO} {t : F} {h : H} {t1 : F} {h1 : H} (a : OpRel P o t h t1 h1) : ∃ cf, CfOk P cf ∧ ∀ (ih : F → H → (F → H → Bool) → Bool) k, opK o cf ih t h k = ih t1 h1 k := by
  obtain ⟨g, d, bar, r⟩ := o
  obtain ⟨b, g1, g2⟩ := a
  rcases g2 with ⟨rfl, v, ⟨cf, c1, c2⟩, p⟩ | ⟨rfl, rfl, p⟩
  · refine ⟨cf, c1, fun ih k => ?_⟩
    show guardK g t (fun b => opGo b r d cf ih t h k) = _
    rw [g1]
    show runK r cf t h (fun v h => putD d v t fun t => ih t h k) = _
    rw [c2, p]
  · refine ⟨_, cfSome P, fun ih k => ?_⟩
    show guardK g t (fun b => opGo b r d _ ih t h1 k) = _
    rw [g1]
    show putD d (.tu []) t (fun t => ih t h1 k) = _
    rw [p]
theorem drRel_run {P : Program} {o : CO} {t : F} {h : H} {t1 : F} {h1 : H} (a : DrRel P o t h t1 h1) : ∃ cf, CfOk P cf ∧ ∀ (ih : F → H → (F → H → Bool) → Bool) k, drK o cf ih t h k = ih t1 h1 k := by
  obtain ⟨g, d, bar, r⟩ := o
  cases bar with
  | true =>
    obtain ⟨b, g1, g2⟩ := a
    rcases g2 with ⟨rfl, v, ⟨cf, c1, c2⟩, p⟩ | ⟨rfl, rfl, p⟩
    · refine ⟨cf, c1, fun ih k => ?_⟩
      show guardK g t (fun b => drGo b true r d cf ih t h k) = _
      rw [g1]
      show runK r cf t h (fun v h => putD d v t fun t => ih t h k) = _
      rw [c2, p]
    · refine ⟨_, cfSome P, fun ih k => ?_⟩
      show guardK g t (fun b => drGo b true r d _ ih t h1 k) = _
      rw [g1]
      show putD d (.tu []) t (fun t => ih t h1 k) = _
      rw [p]
  | false =>
    obtain ⟨b, g1, g2⟩ := a
    rcases g2 with ⟨rfl, v, h2, ⟨cf, c1, c2⟩, rfl, p⟩ | ⟨rfl, rfl, p⟩
    · refine ⟨cf, c1, fun ih k => ?_⟩
      show guardK g t (fun b => drGo b false r d cf ih t h k) = _
      rw [g1]
      show runK r cf t (reFloor h) (fun v h2 => putD d v t fun t => ih t (unFloor h h2) k) = _
      rw [c2, p]
    · refine ⟨_, cfSome P, fun ih k => ?_⟩
      show guardK g t (fun b => drGo b false r d _ ih t h1 k) = _
      rw [g1]
      show putD d (.tu []) t (fun t => ih t h1 k) = _
      rw [p]

theorem same_of {t1 t2 : F} {h1 h2 : H} (e : ∀ k : F → H → Bool, k t1 h1 = k t2 h2) : t2 = t1 ∧ h2 = h1 := by
  have := e fun t h => @decide (t = t1 ∧ h = h1) (Classical.propDecidable _)
  simp at this
  exact this

theorem opsRel_ok {P : Program} {nt : Nat} {ops : Array Oper} (bars : Nat → Bool) : ∀ (l : List Oper) (n : Nat), ops.toList.drop n = l → ∀ (t : F) (h : H) (t' : F) (h' : H),
    OpsRel P (compOpsWith bars P nt ops.toList (compOp P) n l) t h t' h' → KeepF h h' ∧ B.val h.next ≤ B.val h'.next ∧
      ∀ ρ a w w0 (Q : Exit → Act → World → Prop), ARel ρ nt t a → HRel ρ h w w0 → (∀ ρ' a' w', Ext h.floor ρ ρ' → ARel ρ' nt t' a' → HRel ρ' h' w' w0 → Q .normal a' w') →
        wpOps P ops Q (List.range' n l.length) a w := by
  intro l
  induction l with
  | nil =>
    intro n hl t h t' h' hk
    obtain ⟨rfl, rfl⟩ := hk
    exact ⟨KeepF.refl _, Nat.le_refl _, fun ρ a w w0 Q A R hq => hq ρ a w (Ext.refl _ ρ) A R⟩
  | cons o l ih =>
    intro n hl t h t' h' hk
    obtain ⟨t1, h1, hk1, hk2⟩ := hk
    obtain ⟨cf, hcf, e⟩ := opRel_run hk1
    obtain ⟨t1', h1', a1, a2, a3, a4⟩ := op_ok hcf (ops := ops) (ih := fun t h k => k t h) (k := fun _ _ => true) (e _ _)
    obtain ⟨rfl, rfl⟩ := same_of (fun k => (e (fun t h k => k t h) k).symm.trans (a1 k))
    have hl' : ops.toList.drop (n + 1) = l := by rw [← List.drop_drop, hl]; rfl
    obtain ⟨b2, b3, b4⟩ := ih (n + 1) hl' _ _ _ _ hk2
    refine ⟨KeepF.trans a2 a3 b2, Nat.le_trans a3 b3, fun ρ a w w0 Q A R hq => ?_⟩
    have hn : ops[n]? = some o := by
      have : ops.toList[n]? = some o := by
        have := congrArg (fun l => l[0]?) hl
        simpa using this
      simpa using this
    rw [List.length_cons, List.range'_succ, wpOps_cons]
    unfold wpOp
    simp only [hn]
    have := a4 ρ a w w0 (wpOps P ops Q (List.range' (n + 1) l.length)) Q A R fun ρ' a' w' l1 A' R' => b4 ρ' a' w' w0 Q A' R' fun ρ'' a'' w'' l2 A'' R'' => hq ρ'' a'' w'' (Ext.trans l1 (by rw [← a2.1]; exact l2)) A'' R''
    split
    · rename_i hw; simp only [hw, if_true] at this; exact .inl this
    · rename_i hw; simp only [hw] at this; exact this

theorem drs_trace {P : Program} {nt : Nat} {ops : Array Oper} (bars : Nat → Bool) : ∀ (l : List Oper) (n : Nat), ops.toList.drop n = l → ∀ (t : F) (h : H) (t' : F) (h' : H),
    DrsRel P (compOpsWith bars P nt ops.toList (compOp P) n l) t h t' h' →
    ∃ (Ts : Nat → F) (Hs : Nat → H), Ts n = t ∧ Hs n = h ∧ (Ts (n + l.length) = t' ∧ Hs (n + l.length) = h') ∧
      ∀ (i : Nat) o, n ≤ i → ops[i]? = some o → StepOk P nt ops i o (bars i) (Ts i) (Ts (i + 1)) (Hs i) (Hs (i + 1)) := by
  intro l
  induction l with
  | nil =>
    intro n hl t h t' h' hk
    obtain ⟨rfl, rfl⟩ := hk
    refine ⟨fun _ => t', fun _ => h', rfl, rfl, ⟨rfl, rfl⟩, fun i o hni hi => ?_⟩
    have : ops.toList[i]? = none := by
      rw [List.getElem?_eq_none]
      have := congrArg List.length hl
      simp at this
      simp; omega
    rw [show ops[i]? = ops.toList[i]? by simp, this] at hi
    cases hi
  | cons o l ih =>
    intro n hl t h t' h' hk
    have hn : ops[n]? = some o := by
      have : ops.toList[n]? = some o := by
        have := congrArg (fun l => l[0]?) hl
        simpa using this
      simpa using this
    obtain ⟨t1, h1, hk1, hk2⟩ := hk
    obtain ⟨cf, hcf, e⟩ := drRel_run hk1
    obtain ⟨t1', h1', a1, a2⟩ := dr_step hcf hn (ih := fun t h k => k t h) (k := fun _ _ => true) (e _ _)
    obtain ⟨rfl, rfl⟩ := same_of (fun k => (e (fun t h k => k t h) k).symm.trans (a1 k))
    have hl' : ops.toList.drop (n + 1) = l := by rw [← List.drop_drop, hl]; rfl
    obtain ⟨Ts, Hs, b1, b2, b3, b4⟩ := ih (n + 1) hl' _ _ _ _ hk2
    refine ⟨fun i => if i = n then t else Ts i, fun i => if i = n then h else Hs i, by simp, by simp, ?_, fun i oi hni hi => ?_⟩
    · have e1 : n + (o :: l).length = n + 1 + l.length := by simp; omega
      rw [e1]
      simp only [show ¬ n + 1 + l.length = n by omega, if_false]
      exact b3
    · by_cases hin : i = n
      · subst hin
        rw [hn] at hi
        cases hi
        simp only [if_true, show ¬ i + 1 = i by omega, if_false, b1, b2]
        exact a2
      · simp only [hin, if_false, show ¬ i + 1 = n by omega]
        exact b4 i oi (by omega) hi

theorem drsRel_ok {P : Program} (hm : P.follows .mixedOrders = true) {nt : Nat} {ops : Array Oper} (hd : drawsOk ops.toList = true) {t : F} {h : H} {t' : F} {h' : H}
    (hk : DrsRel P (compOpsWith (barAt P ops.toList (befs ops.toList [])) P nt ops.toList (compOp P) 0 ops.toList) t h t' h') :
    KeepF h h' ∧ B.val h.next ≤ B.val h'.next ∧
      ∀ ρ a w w0 (id : Nat) (Q : Exit → Act → World → Prop), ARel ρ nt t a → HRel ρ h w w0 → (∀ ρ' a' w', Ext h.floor ρ ρ' → ARel ρ' nt t' a' → HRel ρ' h' w' w0 → Q .normal a' w') → (Code.region id ops true).wp P Q a w := by
  obtain ⟨Ts, Hs, b1, b2, b3, b4⟩ := drs_trace _ ops.toList 0 (by simp) t h t' h' hk
  have hst : ∀ (i : Nat) o, ops[i]? = some o → StepOk P nt ops i o (barAt P ops.toList (befs ops.toList []) i) (Ts i) (Ts (i + 1)) (Hs i) (Hs (i + 1)) := fun i o hi => b4 i o (Nat.zero_le _) hi
  have hlen : 0 + ops.toList.length = ops.size := by simp
  rw [hlen] at b3
  obtain ⟨c1, c2⟩ := b3
  refine ⟨by rw [← b2, ← c2]; exact keep_all hd hst (Nat.le_refl _), by rw [← b2, ← c2]; exact nx_mono hst (Nat.zero_le _) (Nat.le_refl _), fun ρ a w w0 id Q A R hQ => ?_⟩
  refine wp_region_any hm ?_
  have hR1 : HRel ρ h { w with drawn := w.drawn + 1 } w0 := R.dr _
  obtain ⟨M, m1, m2, m3, m4⟩ := next_bar (P := P) (nt := nt) (Ts := Ts) (Hs := Hs) hd hst 0 ops.size (by omega)
  have hno : ∀ j, ¬ InL (Array.replicate ops.size false) j := by
    intro j; unfold InL
    by_cases hj : j < ops.size <;> simp [hj]
  refine any_ok hd hst (ρ0 := ρ) (w0 := w0) (fun ρ' a' w' h1 h2 h3 => hQ ρ' a' w' (by rw [← b2]; exact h1) (by rw [← c1]; exact h2) (by rw [← c2]; exact h3)) ops.size _ a _ ρ 0 M (by simp) (by unfold left; exact Nat.le_trans (List.length_filter_le _ _) (by simp)) (fun j o hj hin => absurd hin (hno j)) ?_
  refine ⟨A.size, A.defers, Ext.refl _ _, fun q h5 => ⟨0, Nat.zero_le _, .inl rfl, fun j o hj hdj => ⟨fun h => by omega, fun h => absurd h (hno j)⟩, ?_⟩, Nat.zero_le _, m2, fun j o hj h1 h2 => by omega, fun j o hj h1 h2 => hno j, m3, m4,
    fun i g L hL => ?_, fun i g L hL j o hj hnj hbd => ?_, fun m h1 h2 => ?_⟩
  · rw [b1, b2]
    exact VRel.up (fun i g L hL => Emb.below_of hL (R.ids _ _ _ hL)) _ _ (A.slot q h5)
  · have := R.ids _ _ _ hL
    rw [← b2] at this
    exact Nat.lt_of_lt_of_le this (nx_mono hst (Nat.zero_le _) m2)
  · have := R.ids _ _ _ hL
    rw [← b2] at this
    have hjN : j < ops.size := (Array.getElem?_eq_some_iff.1 hj).1
    have := nx_mono hst (m := 0) (n := j) (Nat.zero_le _) (by omega)
    omega
  · have hmN : m ≤ ops.size := by omega
    rw [← b2] at hR1
    have hR2 : HRel ρ (Hs m) { w with drawn := w.drawn + 1 } w0 := hR1.later (fun i g L hL => seg_keep hst m2 m3 (Nat.le_refl _) h1 h2 (hR1.ids _ _ _ hL)) (nx_mono hst h1 hmN) (fl_same hst hmN)
    exact hR2.congr fun i g => by
      cases hL : ρ i g with
      | none => unfold Emb.below; rw [hL]; split <;> rfl
      | some L => exact Emb.below_of hL (hR2.ids _ _ _ hL)

/-! ### Into the walk -/
def WO (P : Program) (l : List CO) (t : F) (h : H) (K : F → H → Prop) : Prop := ∃ t' h', OpsRel P l t h t' h' ∧ K t' h'
def DO (P : Program) (l : List CO) (t : F) (h : H) (K : F → H → Prop) : Prop := ∃ t' h', DrsRel P l t h t' h' ∧ K t' h'

section
variable {P : Program} {nt : Nat} {t : F} {h : H} {K : X → F → H → Prop}
theorem Ok.rg {l : List CO} (a : WO P l t h (K .normal)) : Ok P nt (.region l) t h K := by
  obtain ⟨t', h', e, k⟩ := a
  refine ⟨.normal, t', h', by_scopes _ fun c e' hs => ?_, k⟩
  cases c with
  | region id os draw =>
    have e1 : compRegion P nt os.toList draw = .region l := e'
    unfold compRegion at e1
    split at e1
    · cases e1
      obtain ⟨a2, a3, a4⟩ := opsRel_ok (fun _ => true) os.toList 0 (by simp) t h t' h' e
      refine ⟨a2, a3, fun ρ a w w0 Q A R hQ => wp_region ?_⟩
      have := a4 ρ a w w0 Q A R hQ
      rwa [show List.range' 0 os.toList.length = List.range os.size by rw [List.range_eq_range']; simp] at this
    · split at e1 <;> cases e1
  | scope d => exact absurd rfl (hs d)
  | _ => cases e'
theorem Ok.dw (hm : P.follows .mixedOrders = true) {l : List CO} (a : DO P l t h (K .normal)) : Ok P nt (.draws l) t h K := by
  obtain ⟨t', h', e, k⟩ := a
  refine ⟨.normal, t', h', by_scopes _ fun c e' hs => ?_, k⟩
  cases c with
  | region id os draw =>
    have e1 : compRegion P nt os.toList draw = .draws l := e'
    unfold compRegion at e1
    split at e1
    · cases e1
    · split at e1
      · rename_i hd
        cases e1
        obtain ⟨a2, a3, a4⟩ := drsRel_ok hm hd e
        exact ⟨a2, a3, fun ρ a w w0 Q A R hQ => a4 ρ a w w0 id Q A R hQ⟩
      · cases e1
  | scope d => exact absurd rfl (hs d)
  | _ => cases e'
end
end Go.Ev
