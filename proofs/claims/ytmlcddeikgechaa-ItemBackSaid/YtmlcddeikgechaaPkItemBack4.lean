/- Texts of ours, without what this claim does not use: Wa Wb EvZ Wc Wd We Wg ArgR CellM EntM SealM SealN BaM JrEnt JrCell Base NCell NText NEnt1 NEntR BaW ArgW ArgE ItM ItR ArgI JrItP. No condition. -/
import Derived.Test.YtmlcddeikgechaaPkItemBack3
import Derived.Test.YtmlcddeikgechaaProg
import Derived.KernelRfl
set_option linter.all false
namespace Go.Ev
open Go
/-- what one operation makes of a state -/
def RunRel (P : Program) (r : CR) (t : F) (h : H) (v : V) (h' : H) : Prop := ∃ cf, CfOk P cf ∧ ∀ k, runK r cf t h k = k v h'
def OpRel (P : Program) (o : CO) (t : F) (h : H) (t1 : F) (h1 : H) : Prop := match o with
  | .mk g d _ r => ∃ b, (∀ k, guardK g t k = k b) ∧ ((b = true ∧ ∃ v, RunRel P r t h v h1 ∧ ∀ k, putD d v t k = k t1) ∨ (b = false ∧ h1 = h ∧ ∀ k, putD d (.tu []) t k = k t1))
def OpsRel (P : Program) : List CO → F → H → F → H → Prop
  | [], t, h, t', h' => t' = t ∧ h' = h
  | o :: l, t, h, t', h' => ∃ t1 h1, OpRel P o t h t1 h1 ∧ OpsRel P l t1 h1 t' h'
def DrRel (P : Program) (o : CO) (t : F) (h : H) (t1 : F) (h1 : H) : Prop := match o with
  | .mk g d true r => OpRel P (.mk g d true r) t h t1 h1
  | .mk g d false r => ∃ b, (∀ k, guardK g t k = k b) ∧ ((b = true ∧ ∃ v h2, RunRel P r t (reFloor h) v h2 ∧ h1 = unFloor h h2 ∧ ∀ k, putD d v t k = k t1) ∨ (b = false ∧ h1 = h ∧ ∀ k, putD d (.tu []) t k = k t1))
def DrsRel (P : Program) : List CO → F → H → F → H → Prop
  | [], t, h, t', h' => t' = t ∧ h' = h
  | o :: l, t, h, t', h' => ∃ t1 h1, DrRel P o t h t1 h1 ∧ DrsRel P l t1 h1 t' h'
theorem cfSome (P : Program) : CfOk P (cfS P fun _ _ _ _ _ => True) := cfS_ok P _
theorem opRel_run {P : Program} {o : CO} {t : F} {h : H} {t1 : F} {h1 : H} (a : OpRel P o t h t1 h1) : ∃ cf, CfOk P cf ∧ ∀ (ih : F → H → (F → H → Bool) → Bool) k, opK o cf ih t h k = ih t1 h1 k := by
  obtain ⟨g, d, bar, r⟩ := o
  obtain ⟨b, g1, g2⟩ := a
  rcases g2 with ⟨rfl, v, ⟨cf, c1, c2⟩, p⟩ | ⟨rfl, rfl, p⟩
  · refine ⟨cf, c1, fun ih k => ?_⟩
    show guardK g t (fun b => opGo b r d cf ih t h k) = _
    rw [g1]
    show runK r cf t h (fun v h => putD d v t fun t => ih t h k) = _
    rw [c2, p]
  · refine ⟨_, cfSome P, fun ih k => ?_⟩
    show guardK g t (fun b => opGo b r d _ ih t h1 k) = _
    rw [g1]
    show putD d (.tu []) t (fun t => ih t h1 k) = _
    rw [p]
theorem drRel_run {P : Program} {o : CO} {t : F} {h : H} {t1 : F} {h1 : H} (a : DrRel P o t h t1 h1) : ∃ cf, CfOk P cf ∧ ∀ (ih : F → H → (F → H → Bool) → Bool) k, drK o cf ih t h k = ih t1 h1 k := by
  obtain ⟨g, d, bar, r⟩ := o
  cases bar with
  | true =>
    obtain ⟨b, g1, g2⟩ := a
    rcases g2 with ⟨rfl, v, ⟨cf, c1, c2⟩, p⟩ | ⟨rfl, rfl, p⟩
    · refine ⟨cf, c1, fun ih k => ?_⟩
      show guardK g t (fun b => drGo b true r d cf ih t h k) = _
      rw [g1]
      show runK r cf t h (fun v h => putD d v t fun t => ih t h k) = _
      rw [c2, p]
    · refine ⟨_, cfSome P, fun ih k => ?_⟩
      show guardK g t (fun b => drGo b true r d _ ih t h1 k) = _
      rw [g1]
      show putD d (.tu []) t (fun t => ih t h1 k) = _
      rw [p]
  | false =>
    obtain ⟨b, g1, g2⟩ := a
    rcases g2 with ⟨rfl, v, h2, ⟨cf, c1, c2⟩, rfl, p⟩ | ⟨rfl, rfl, p⟩
    · refine ⟨cf, c1, fun ih k => ?_⟩
      show guardK g t (fun b => drGo b false r d cf ih t h k) = _
      rw [g1]
      show runK r cf t (reFloor h) (fun v h2 => putD d v t fun t => ih t (unFloor h h2) k) = _
      rw [c2, p]
    · refine ⟨_, cfSome P, fun ih k => ?_⟩
      show guardK g t (fun b => drGo b false r d _ ih t h1 k) = _
      rw [g1]
      show putD d (.tu []) t (fun t => ih t h1 k) = _
      rw [p]
theorem same_of {t1 t2 : F} {h1 h2 : H} (e : ∀ k : F → H → Bool, k t1 h1 = k t2 h2) : t2 = t1 ∧ h2 = h1 := by
  have := e fun t h => @decide (t = t1 ∧ h = h1) (Classical.propDecidable _)
  simp at this
  exact this
theorem opsRel_ok {P : Program} {nt : Nat} {ops : Array Oper} (bars : Nat → Bool) : ∀ (l : List Oper) (n : Nat), ops.toList.drop n = l → ∀ (t : F) (h : H) (t' : F) (h' : H),
    OpsRel P (compOpsWith bars P nt ops.toList (compOp P) n l) t h t' h' → KeepF h h' ∧ B.val h.next ≤ B.val h'.next ∧
      ∀ ρ a w w0 (Q : Exit → Act → World → Prop), ARel ρ nt t a → HRel ρ h w w0 → (∀ ρ' a' w', Ext h.floor ρ ρ' → ARel ρ' nt t' a' → HRel ρ' h' w' w0 → Q .normal a' w') →
        wpOps P ops Q (List.range' n l.length) a w := by
  intro l
  induction l with
  | nil =>
    intro n hl t h t' h' hk
    obtain ⟨rfl, rfl⟩ := hk
    exact ⟨KeepF.refl _, Nat.le_refl _, fun ρ a w w0 Q A R hq => hq ρ a w (Ext.refl _ ρ) A R⟩
  | cons o l ih =>
    intro n hl t h t' h' hk
    obtain ⟨t1, h1, hk1, hk2⟩ := hk
    obtain ⟨cf, hcf, e⟩ := opRel_run hk1
    obtain ⟨t1', h1', a1, a2, a3, a4⟩ := op_ok hcf (ops := ops) (ih := fun t h k => k t h) (k := fun _ _ => true) (e _ _)
    obtain ⟨rfl, rfl⟩ := same_of (fun k => (e (fun t h k => k t h) k).symm.trans (a1 k))
    have hl' : ops.toList.drop (n + 1) = l := by rw [← List.drop_drop, hl]; rfl
    obtain ⟨b2, b3, b4⟩ := ih (n + 1) hl' _ _ _ _ hk2
    refine ⟨KeepF.trans a2 a3 b2, Nat.le_trans a3 b3, fun ρ a w w0 Q A R hq => ?_⟩
    have hn : ops[n]? = some o := by
      have : ops.toList[n]? = some o := by
        have := congrArg (fun l => l[0]?) hl
        simpa using this
      simpa using this
    rw [List.length_cons, List.range'_succ, wpOps_cons]
    unfold wpOp
    simp only [hn]
    have := a4 ρ a w w0 (wpOps P ops Q (List.range' (n + 1) l.length)) Q A R fun ρ' a' w' l1 A' R' => b4 ρ' a' w' w0 Q A' R' fun ρ'' a'' w'' l2 A'' R'' => hq ρ'' a'' w'' (Ext.trans l1 (by rw [← a2.1]; exact l2)) A'' R''
    split
    · rename_i hw; simp only [hw, if_true] at this; exact .inl this
    · rename_i hw; simp only [hw] at this; exact this
theorem drs_trace {P : Program} {nt : Nat} {ops : Array Oper} (bars : Nat → Bool) : ∀ (l : List Oper) (n : Nat), ops.toList.drop n = l → ∀ (t : F) (h : H) (t' : F) (h' : H),
    DrsRel P (compOpsWith bars P nt ops.toList (compOp P) n l) t h t' h' →
    ∃ (Ts : Nat → F) (Hs : Nat → H), Ts n = t ∧ Hs n = h ∧ (Ts (n + l.length) = t' ∧ Hs (n + l.length) = h') ∧
      ∀ (i : Nat) o, n ≤ i → ops[i]? = some o → StepOk P nt ops i o (bars i) (Ts i) (Ts (i + 1)) (Hs i) (Hs (i + 1)) := by
  intro l
  induction l with
  | nil =>
    intro n hl t h t' h' hk
    obtain ⟨rfl, rfl⟩ := hk
    refine ⟨fun _ => t', fun _ => h', rfl, rfl, ⟨rfl, rfl⟩, fun i o hni hi => ?_⟩
    have : ops.toList[i]? = none := by
      rw [List.getElem?_eq_none]
      have := congrArg List.length hl
      simp at this
      simp; omega
    rw [show ops[i]? = ops.toList[i]? by simp, this] at hi
    cases hi
  | cons o l ih =>
    intro n hl t h t' h' hk
    have hn : ops[n]? = some o := by
      have : ops.toList[n]? = some o := by
        have := congrArg (fun l => l[0]?) hl
        simpa using this
      simpa using this
    obtain ⟨t1, h1, hk1, hk2⟩ := hk
    obtain ⟨cf, hcf, e⟩ := drRel_run hk1
    obtain ⟨t1', h1', a1, a2⟩ := dr_step hcf hn (ih := fun t h k => k t h) (k := fun _ _ => true) (e _ _)
    obtain ⟨rfl, rfl⟩ := same_of (fun k => (e (fun t h k => k t h) k).symm.trans (a1 k))
    have hl' : ops.toList.drop (n + 1) = l := by rw [← List.drop_drop, hl]; rfl
    obtain ⟨Ts, Hs, b1, b2, b3, b4⟩ := ih (n + 1) hl' _ _ _ _ hk2
    refine ⟨fun i => if i = n then t else Ts i, fun i => if i = n then h else Hs i, by simp, by simp, ?_, fun i oi hni hi => ?_⟩
    · have e1 : n + (o :: l).length = n + 1 + l.length := by simp; omega
      rw [e1]
      simp only [show ¬ n + 1 + l.length = n by omega, if_false]
      exact b3
    · by_cases hin : i = n
      · subst hin
        rw [hn] at hi
        cases hi
        simp only [if_true, show ¬ i + 1 = i by omega, if_false, b1, b2]
        exact a2
      · simp only [hin, if_false, show ¬ i + 1 = n by omega]
        exact b4 i oi (by omega) hi
theorem drsRel_ok {P : Program} (hm : P.follows .mixedOrders = true) {nt : Nat} {ops : Array Oper} (hd : drawsOk ops.toList = true) {t : F} {h : H} {t' : F} {h' : H}
    (hk : DrsRel P (compOpsWith (barAt P ops.toList (befs ops.toList [])) P nt ops.toList (compOp P) 0 ops.toList) t h t' h') :
    KeepF h h' ∧ B.val h.next ≤ B.val h'.next ∧
      ∀ ρ a w w0 (id : Nat) (Q : Exit → Act → World → Prop), ARel ρ nt t a → HRel ρ h w w0 → (∀ ρ' a' w', Ext h.floor ρ ρ' → ARel ρ' nt t' a' → HRel ρ' h' w' w0 → Q .normal a' w') → (Code.region id ops true).wp P Q a w := by
  obtain ⟨Ts, Hs, b1, b2, b3, b4⟩ := drs_trace _ ops.toList 0 (by simp) t h t' h' hk
  have hst : ∀ (i : Nat) o, ops[i]? = some o → StepOk P nt ops i o (barAt P ops.toList (befs ops.toList []) i) (Ts i) (Ts (i + 1)) (Hs i) (Hs (i + 1)) := fun i o hi => b4 i o (Nat.zero_le _) hi
  have hlen : 0 + ops.toList.length = ops.size := by simp
  rw [hlen] at b3
  obtain ⟨c1, c2⟩ := b3
  refine ⟨by rw [← b2, ← c2]; exact keep_all hd hst (Nat.le_refl _), by rw [← b2, ← c2]; exact nx_mono hst (Nat.zero_le _) (Nat.le_refl _), fun ρ a w w0 id Q A R hQ => ?_⟩
  refine wp_region_any hm ?_
  have hR1 : HRel ρ h { w with drawn := w.drawn + 1 } w0 := R.dr _
  obtain ⟨M, m1, m2, m3, m4⟩ := next_bar (P := P) (nt := nt) (Ts := Ts) (Hs := Hs) hd hst 0 ops.size (by omega)
  have hno : ∀ j, ¬ InL (Array.replicate ops.size false) j := by
    intro j; unfold InL
    by_cases hj : j < ops.size <;> simp [hj]
  refine any_ok hd hst (ρ0 := ρ) (w0 := w0) (fun ρ' a' w' h1 h2 h3 => hQ ρ' a' w' (by rw [← b2]; exact h1) (by rw [← c1]; exact h2) (by rw [← c2]; exact h3)) ops.size _ a _ ρ 0 M (by simp) (by unfold left; exact Nat.le_trans (List.length_filter_le _ _) (by simp)) (fun j o hj hin => absurd hin (hno j)) ?_
  refine ⟨A.size, A.defers, Ext.refl _ _, fun q h5 => ⟨0, Nat.zero_le _, .inl rfl, fun j o hj hdj => ⟨fun h => by omega, fun h => absurd h (hno j)⟩, ?_⟩, Nat.zero_le _, m2, fun j o hj h1 h2 => by omega, fun j o hj h1 h2 => hno j, m3, m4,
    fun i g L hL => ?_, fun i g L hL j o hj hnj hbd => ?_, fun m h1 h2 => ?_⟩
  · rw [b1, b2]
    exact VRel.up (fun i g L hL => Emb.below_of hL (R.ids _ _ _ hL)) _ _ (A.slot q h5)
  · have := R.ids _ _ _ hL
    rw [← b2] at this
    exact Nat.lt_of_lt_of_le this (nx_mono hst (Nat.zero_le _) m2)
  · have := R.ids _ _ _ hL
    rw [← b2] at this
    have hjN : j < ops.size := (Array.getElem?_eq_some_iff.1 hj).1
    have := nx_mono hst (m := 0) (n := j) (Nat.zero_le _) (by omega)
    omega
  · have hmN : m ≤ ops.size := by omega
    rw [← b2] at hR1
    have hR2 : HRel ρ (Hs m) { w with drawn := w.drawn + 1 } w0 := hR1.later (fun i g L hL => seg_keep hst m2 m3 (Nat.le_refl _) h1 h2 (hR1.ids _ _ _ hL)) (nx_mono hst h1 hmN) (fl_same hst hmN)
    exact hR2.congr fun i g => by
      cases hL : ρ i g with
      | none => unfold Emb.below; rw [hL]; split <;> rfl
      | some L => exact Emb.below_of hL (hR2.ids _ _ _ hL)
def WO (P : Program) (l : List CO) (t : F) (h : H) (K : F → H → Prop) : Prop := ∃ t' h', OpsRel P l t h t' h' ∧ K t' h'
def DO (P : Program) (l : List CO) (t : F) (h : H) (K : F → H → Prop) : Prop := ∃ t' h', DrsRel P l t h t' h' ∧ K t' h'
section
variable {P : Program} {nt : Nat} {t : F} {h : H} {K : X → F → H → Prop}
theorem Ok.rg {l : List CO} (a : WO P l t h (K .normal)) : Ok P nt (.region l) t h K := by
  obtain ⟨t', h', e, k⟩ := a
  refine ⟨.normal, t', h', by_scopes _ fun c e' hs => ?_, k⟩
  cases c with
  | region id os draw =>
    have e1 : compRegion P nt os.toList draw = .region l := e'
    obtain ⟨rfl, rfl⟩ := reg_is e1
    obtain ⟨a2, a3, a4⟩ := opsRel_ok (fun _ => true) os.toList 0 (by simp) t h t' h' e
    refine ⟨a2, a3, fun ρ a w w0 Q A R hQ => wp_region ?_⟩
    have := a4 ρ a w w0 Q A R hQ
    rwa [show List.range' 0 os.toList.length = List.range os.size by rw [List.range_eq_range']; simp] at this
  | scope d => exact absurd rfl (hs d)
  | _ => cases e'
theorem Ok.dw (hm : P.follows .mixedOrders = true) {l : List CO} {ch : Option (List Nat × List (Nat × List Nat))} (a : DO P l t h (K .normal)) : Ok P nt (.draws l ch) t h K := by
  obtain ⟨t', h', e, k⟩ := a
  refine ⟨.normal, t', h', by_scopes _ fun c e' hs => ?_, k⟩
  cases c with
  | region id os draw =>
    have e1 : compRegion P nt os.toList draw = .draws l ch := e'
    obtain ⟨rfl, hd, e1⟩ := reg_dr e1
    cases e1
    obtain ⟨a2, a3, a4⟩ := drsRel_ok hm hd e
    exact ⟨a2, a3, fun ρ a w w0 Q A R hQ => a4 ρ a w w0 id Q A R hQ⟩
  | scope d => exact absurd rfl (hs d)
  | _ => cases e'
end
end Go.Ev

set_option linter.all false
namespace Go.Ev
open Go
/-- operations, shortly -/
noncomputable def wB (n : Nat) (r : Run) : CO := .mk .none (.some (slOf n)) true (.mk r)
noncomputable def uB (n : Nat) (r : Run) : CO := .mk .none (.some (slOf n)) false (.mk r)
noncomputable def wG (g : Nat) (w : Bool) (n : Nat) (r : Run) : CO := .mk (.some (slOf g) w) (.some (slOf n)) true (.mk r)
noncomputable def uG (g : Nat) (w : Bool) (n : Nat) (r : Run) : CO := .mk (.some (slOf g) w) (.some (slOf n)) false (.mk r)
noncomputable def oN (n : Nat) : O := .c (.i .i64 (.ofNat n))
theorem wB_eq (n : Nat) (r : Run) : wB n r = .mk .none (.some (slOf n)) true (.mk r) := rfl
theorem uB_eq (n : Nat) (r : Run) : uB n r = .mk .none (.some (slOf n)) false (.mk r) := rfl
theorem wG_eq (g : Nat) (w : Bool) (n : Nat) (r : Run) : wG g w n r = .mk (.some (slOf g) w) (.some (slOf n)) true (.mk r) := rfl
theorem uG_eq (g : Nat) (w : Bool) (n : Nat) (r : Run) : uG g w n r = .mk (.some (slOf g) w) (.some (slOf n)) false (.mk r) := rfl
theorem oN_eq (n : Nat) : oN n = .c (.i .i64 (.ofNat n)) := rfl
/-- what stands behind an operation -/
inductive Nx where
  | w (n : Nat) (l : List CO) (t : F) (K : F → H → Prop)
  | w0 (l : List CO) (t : F) (K : F → H → Prop)
  | d (n : Nat) (l : List CO) (t : F) (K : F → H → Prop)
  | d0 (l : List CO) (t : F) (K : F → H → Prop)
  | u (n : Nat) (l : List CO) (t : F) (h : H) (K : F → H → Prop)
  | u0 (l : List CO) (t : F) (h : H) (K : F → H → Prop)
def Nx.go (P : Program) : Nx → V → H → Prop
  | .w n l t K, v, h => WO P l (put n v t) h K
  | .w0 l t K, _, h => WO P l t h K
  | .d n l t K, v, h => DO P l (put n v t) h K
  | .d0 l t K, _, h => DO P l t h K
  | .u n l t h0 K, v, h => DO P l (put n v t) (unFloor h0 h) K
  | .u0 l t h0 K, _, h => DO P l t (unFloor h0 h) K
/-- the operation r, then N -/
def OR (P : Program) (r : Run) (t : F) (h : H) (N : Nx) : Prop := ∃ v h', RunRel P (.mk r) t h v h' ∧ N.go P v h'
/-- a guard, then r and N, or N alone -/
def GD (P : Program) (q : V) (w : Bool) (r : Run) (t : F) (h : H) (N : Nx) : Prop := ∃ b, (∀ k, vG q w k = k b) ∧ ((b = true ∧ OR P r t h N) ∨ (b = false ∧ N.go P (.tu []) h))
theorem b_of {b c : Bool} (e : ∀ k : Bool → Bool, k b = k c) : c = b := (e id).symm
theorem v_of {v u : V} (e : ∀ k : V → Bool, k v = k u) : u = v := by
  have := e fun x => @decide (x = v) (Classical.propDecidable _)
  simp at this
  exact this
theorem f_of {v u : F} (e : ∀ k : F → Bool, k v = k u) : u = v := by
  have := e fun x => @decide (x = v) (Classical.propDecidable _)
  simp at this
  exact this
theorem l_of {v u : List V} (e : ∀ k : List V → Bool, k v = k u) : u = v := by
  have := e fun x => @decide (x = v) (Classical.propDecidable _)
  simp at this
  exact this
theorem vh_of {v u : V} {h g : H} (e : ∀ k : V → H → Bool, k v h = k u g) : u = v ∧ g = h := by
  have := e fun x y => @decide (x = v ∧ y = h) (Classical.propDecidable _)
  simp at this
  exact ⟨this.1, this.2⟩
section
variable {P : Program} {l : List CO} {t : F} {h : H} {K : F → H → Prop} {r : Run} {n g : Nat} {w b : Bool}
theorem wo_nil : WO P [] t h K = K t h := propext ⟨fun ⟨_, _, ⟨e1, e2⟩, k⟩ => by subst e1; subst e2; exact k, fun k => ⟨t, h, ⟨rfl, rfl⟩, k⟩⟩
theorem do_nil : DO P [] t h K = K t h := propext ⟨fun ⟨_, _, ⟨e1, e2⟩, k⟩ => by subst e1; subst e2; exact k, fun k => ⟨t, h, ⟨rfl, rfl⟩, k⟩⟩
theorem putS {v : V} (k : F → Bool) : putD (.some (slOf n)) v t k = k (put n v t) := sPut_put n v t k
theorem wo_c : WO P (.mk .none (.some (slOf n)) b (.mk r) :: l) t h K = OR P r t h (.w n l t K) := by
  apply propext; constructor
  · rintro ⟨t', h', ⟨t1, h1, ⟨q, g1, g2⟩, e⟩, k⟩
    have hq := b_of (b := true) (c := q) fun k => g1 k
    subst hq
    rcases g2 with ⟨_, v, rr, p⟩ | ⟨e', _⟩
    · have := f_of fun k => (putS k).symm.trans (p k)
      subst this
      exact ⟨v, h1, rr, t', h', e, k⟩
    · cases e'
  · rintro ⟨v, h1, rr, t', h', e, k⟩
    exact ⟨t', h', ⟨_, h1, ⟨true, fun _ => rfl, .inl ⟨rfl, v, rr, fun k => putS k⟩⟩, e⟩, k⟩
theorem wo_0 : WO P (.mk .none .none b (.mk r) :: l) t h K = OR P r t h (.w0 l t K) := by
  apply propext; constructor
  · rintro ⟨t', h', ⟨t1, h1, ⟨q, g1, g2⟩, e⟩, k⟩
    have hq := b_of (b := true) (c := q) fun k => g1 k
    subst hq
    rcases g2 with ⟨_, v, rr, p⟩ | ⟨e', _⟩
    · have := f_of fun k => p k
      subst this
      exact ⟨v, h1, rr, t', h', e, k⟩
    · cases e'
  · rintro ⟨v, h1, rr, t', h', e, k⟩
    exact ⟨t', h', ⟨_, h1, ⟨true, fun _ => rfl, .inl ⟨rfl, v, rr, fun k => rfl⟩⟩, e⟩, k⟩
theorem wo_g : WO P (.mk (.some (slOf g) w) (.some (slOf n)) b (.mk r) :: l) t h K = GD P (get g t) w r t h (.w n l t K) := by
  apply propext; constructor
  · rintro ⟨t', h', ⟨t1, h1, ⟨q, g1, g2⟩, e⟩, k⟩
    refine ⟨q, g1, ?_⟩
    rcases g2 with ⟨rfl, v, rr, p⟩ | ⟨rfl, rfl, p⟩
    · have := f_of fun k => (putS k).symm.trans (p k)
      subst this
      exact .inl ⟨rfl, v, h1, rr, t', h', e, k⟩
    · have := f_of fun k => (putS k).symm.trans (p k)
      subst this
      exact .inr ⟨rfl, t', h', e, k⟩
  · rintro ⟨q, g1, ⟨rfl, v, h1, rr, t', h', e, k⟩ | ⟨rfl, t', h', e, k⟩⟩
    · exact ⟨t', h', ⟨_, h1, ⟨true, g1, .inl ⟨rfl, v, rr, fun k => putS k⟩⟩, e⟩, k⟩
    · exact ⟨t', h', ⟨_, h, ⟨false, g1, .inr ⟨rfl, rfl, fun k => putS k⟩⟩, e⟩, k⟩
theorem wo_g0 : WO P (.mk (.some (slOf g) w) .none b (.mk r) :: l) t h K = GD P (get g t) w r t h (.w0 l t K) := by
  apply propext; constructor
  · rintro ⟨t', h', ⟨t1, h1, ⟨q, g1, g2⟩, e⟩, k⟩
    refine ⟨q, g1, ?_⟩
    rcases g2 with ⟨rfl, v, rr, p⟩ | ⟨rfl, rfl, p⟩
    · have := f_of fun k => p k
      subst this
      exact .inl ⟨rfl, v, h1, rr, t', h', e, k⟩
    · have := f_of fun k => p k
      subst this
      exact .inr ⟨rfl, t', h', e, k⟩
  · rintro ⟨q, g1, ⟨rfl, v, h1, rr, t', h', e, k⟩ | ⟨rfl, t', h', e, k⟩⟩
    · exact ⟨t', h', ⟨_, h1, ⟨true, g1, .inl ⟨rfl, v, rr, fun k => rfl⟩⟩, e⟩, k⟩
    · exact ⟨t', h', ⟨_, h, ⟨false, g1, .inr ⟨rfl, rfl, fun k => rfl⟩⟩, e⟩, k⟩
theorem do_c : DO P (.mk .none (.some (slOf n)) true (.mk r) :: l) t h K = OR P r t h (.d n l t K) := by
  apply propext; constructor
  · rintro ⟨t', h', ⟨t1, h1, ⟨q, g1, g2⟩, e⟩, k⟩
    have hq := b_of (b := true) (c := q) fun k => g1 k
    subst hq
    rcases g2 with ⟨_, v, rr, p⟩ | ⟨e', _⟩
    · have := f_of fun k => (putS k).symm.trans (p k)
      subst this
      exact ⟨v, h1, rr, t', h', e, k⟩
    · cases e'
  · rintro ⟨v, h1, rr, t', h', e, k⟩
    exact ⟨t', h', ⟨_, h1, ⟨true, fun _ => rfl, .inl ⟨rfl, v, rr, fun k => putS k⟩⟩, e⟩, k⟩
theorem do_0 : DO P (.mk .none .none true (.mk r) :: l) t h K = OR P r t h (.d0 l t K) := by
  apply propext; constructor
  · rintro ⟨t', h', ⟨t1, h1, ⟨q, g1, g2⟩, e⟩, k⟩
    have hq := b_of (b := true) (c := q) fun k => g1 k
    subst hq
    rcases g2 with ⟨_, v, rr, p⟩ | ⟨e', _⟩
    · have := f_of fun k => p k
      subst this
      exact ⟨v, h1, rr, t', h', e, k⟩
    · cases e'
  · rintro ⟨v, h1, rr, t', h', e, k⟩
    exact ⟨t', h', ⟨_, h1, ⟨true, fun _ => rfl, .inl ⟨rfl, v, rr, fun k => rfl⟩⟩, e⟩, k⟩
theorem do_g : DO P (.mk (.some (slOf g) w) (.some (slOf n)) true (.mk r) :: l) t h K = GD P (get g t) w r t h (.d n l t K) := by
  apply propext; constructor
  · rintro ⟨t', h', ⟨t1, h1, ⟨q, g1, g2⟩, e⟩, k⟩
    refine ⟨q, g1, ?_⟩
    rcases g2 with ⟨rfl, v, rr, p⟩ | ⟨rfl, rfl, p⟩
    · have := f_of fun k => (putS k).symm.trans (p k)
      subst this
      exact .inl ⟨rfl, v, h1, rr, t', h', e, k⟩
    · have := f_of fun k => (putS k).symm.trans (p k)
      subst this
      exact .inr ⟨rfl, t', h', e, k⟩
  · rintro ⟨q, g1, ⟨rfl, v, h1, rr, t', h', e, k⟩ | ⟨rfl, t', h', e, k⟩⟩
    · exact ⟨t', h', ⟨_, h1, ⟨true, g1, .inl ⟨rfl, v, rr, fun k => putS k⟩⟩, e⟩, k⟩
    · exact ⟨t', h', ⟨_, h, ⟨false, g1, .inr ⟨rfl, rfl, fun k => putS k⟩⟩, e⟩, k⟩
theorem do_u : DO P (.mk .none (.some (slOf n)) false (.mk r) :: l) t h K = OR P r t (reFloor h) (.u n l t h K) := by
  apply propext; constructor
  · rintro ⟨t', h', ⟨t1, h1, ⟨q, g1, g2⟩, e⟩, k⟩
    have hq := b_of (b := true) (c := q) fun k => g1 k
    subst hq
    rcases g2 with ⟨_, v, h2, rr, rfl, p⟩ | ⟨e', _⟩
    · have := f_of fun k => (putS k).symm.trans (p k)
      subst this
      exact ⟨v, h2, rr, t', h', e, k⟩
    · cases e'
  · rintro ⟨v, h2, rr, t', h', e, k⟩
    exact ⟨t', h', ⟨_, _, ⟨true, fun _ => rfl, .inl ⟨rfl, v, h2, rr, rfl, fun k => putS k⟩⟩, e⟩, k⟩
theorem do_u0 : DO P (.mk .none .none false (.mk r) :: l) t h K = OR P r t (reFloor h) (.u0 l t h K) := by
  apply propext; constructor
  · rintro ⟨t', h', ⟨t1, h1, ⟨q, g1, g2⟩, e⟩, k⟩
    have hq := b_of (b := true) (c := q) fun k => g1 k
    subst hq
    rcases g2 with ⟨_, v, h2, rr, rfl, p⟩ | ⟨e', _⟩
    · have := f_of fun k => p k
      subst this
      exact ⟨v, h2, rr, t', h', e, k⟩
    · cases e'
  · rintro ⟨v, h2, rr, t', h', e, k⟩
    exact ⟨t', h', ⟨_, _, ⟨true, fun _ => rfl, .inl ⟨rfl, v, h2, rr, rfl, fun k => rfl⟩⟩, e⟩, k⟩
theorem unFloor_re (h : H) : unFloor h (reFloor h) = h := by cases h; rfl
theorem do_gu : DO P (.mk (.some (slOf g) w) (.some (slOf n)) false (.mk r) :: l) t h K = GD P (get g t) w r t (reFloor h) (.u n l t h K) := by
  apply propext; constructor
  · rintro ⟨t', h', ⟨t1, h1, ⟨q, g1, g2⟩, e⟩, k⟩
    refine ⟨q, g1, ?_⟩
    rcases g2 with ⟨rfl, v, h2, rr, rfl, p⟩ | ⟨rfl, rfl, p⟩
    · have := f_of fun k => (putS k).symm.trans (p k)
      subst this
      exact .inl ⟨rfl, v, h2, rr, t', h', e, k⟩
    · have := f_of fun k => (putS k).symm.trans (p k)
      subst this
      exact .inr ⟨rfl, t', h', by rw [unFloor_re]; exact e, k⟩
  · rintro ⟨q, g1, ⟨rfl, v, h2, rr, t', h', e, k⟩ | ⟨rfl, t', h', e, k⟩⟩
    · exact ⟨t', h', ⟨_, _, ⟨true, g1, .inl ⟨rfl, v, h2, rr, rfl, fun k => putS k⟩⟩, e⟩, k⟩
    · rw [unFloor_re] at e
      exact ⟨t', h', ⟨_, h, ⟨false, g1, .inr ⟨rfl, rfl, fun k => putS k⟩⟩, e⟩, k⟩
end
section
variable {P : Program} {l : List CO} {t : F} {h h0 : H} {K : F → H → Prop} {n : Nat} {v : V}
theorem go_w : (Nx.w n l t K).go P v h = WO P l (put n v t) h K := rfl
theorem go_w0 : (Nx.w0 l t K).go P v h = WO P l t h K := rfl
theorem go_d : (Nx.d n l t K).go P v h = DO P l (put n v t) h K := rfl
theorem go_d0 : (Nx.d0 l t K).go P v h = DO P l t h K := rfl
theorem go_u : (Nx.u n l t h0 K).go P v h = DO P l (put n v t) (unFloor h0 h) K := rfl
theorem go_u0 : (Nx.u0 l t h0 K).go P v h = DO P l t (unFloor h0 h) K := rfl
end
section
variable {P : Program} {r : Run} {t : F} {h : H} {N : Nx} {w q : Bool}
theorem gd_eq : GD P (.b q) w r t h N = if q = w then OR P r t h N else N.go P (.tu []) h := by
  have e1 : ∀ f, vG (.b q) w f = f (xor (xor q w) true) := fun _ => rfl
  apply propext; constructor
  · rintro ⟨b, g1, g2⟩
    have := b_of fun k => (e1 k).symm.trans (g1 k)
    subst this
    rcases g2 with ⟨e, k⟩ | ⟨e, k⟩
    · rw [if_pos (by cases q <;> cases w <;> simp_all)]; exact k
    · rw [if_neg (by cases q <;> cases w <;> simp_all)]; exact k
  · intro k
    refine ⟨_, e1, ?_⟩
    split at k
    · rename_i e; exact .inl ⟨by cases q <;> cases w <;> simp_all, k⟩
    · rename_i e; exact .inr ⟨by cases q <;> cases w <;> simp_all, k⟩
theorem gd_tt : GD P (.b true) true r t h N = OR P r t h N := by rw [gd_eq]; rfl
theorem gd_ff : GD P (.b false) false r t h N = OR P r t h N := by rw [gd_eq]; rfl
theorem gd_tf : GD P (.b true) false r t h N = N.go P (.tu []) h := by rw [gd_eq]; rfl
theorem gd_ft : GD P (.b false) true r t h N = N.go P (.tu []) h := by rw [gd_eq]; rfl
theorem gd_tu : GD P (.tu []) w r t h N = N.go P (.tu []) h := by
  have e1 : ∀ f, vG (.tu []) w f = f false := fun _ => rfl
  apply propext; constructor
  · rintro ⟨b, g1, g2⟩
    have := b_of fun k => (e1 k).symm.trans (g1 k)
    subst this
    rcases g2 with ⟨e, k⟩ | ⟨e, k⟩
    · cases e
    · exact k
  · intro k; exact ⟨_, e1, .inr ⟨rfl, k⟩⟩
/-- a guard that isn't decided -/
theorem gd_split (a : q = true → GD P (.b true) w r t h N) (b : q = false → GD P (.b false) w r t h N) : GD P (.b q) w r t h N := by
  cases q with
  | true => exact a rfl
  | false => exact b rfl
end
def HV (P : Program) (g : (V → Bool) → Bool) (h : H) (N : Nx) : Prop := ∃ v, (∀ k, g k = k v) ∧ N.go P v h
def H1 (P : Program) (g : V → (V → Bool) → Bool) (x : V) (h : H) (N : Nx) : Prop := HV P (g x) h N
def H2 (P : Program) (g : V → V → (V → Bool) → Bool) (x y : V) (h : H) (N : Nx) : Prop := HV P (g x y) h N
def H3 (P : Program) (g : V → V → V → (V → Bool) → Bool) (x y z : V) (h : H) (N : Nx) : Prop := HV P (g x y z) h N
theorem or_hv {P : Program} {r : Run} {t : F} {h : H} {N : Nx} {g : (V → Bool) → Bool} (e : ∀ cf k, r cf t h k = g fun v => k v h) : OR P r t h N = HV P g h N := by
  apply propext; constructor
  · rintro ⟨v, h', ⟨cf, c1, c2⟩, k⟩
    have hh : h' = h := by
      have h1 := c2 fun _ x => @decide (x = h) (Classical.propDecidable _)
      have h2 := c2 fun _ _ => true
      have e1 := e cf fun _ x => @decide (x = h) (Classical.propDecidable _)
      have e2 := e cf fun _ _ => true
      have : (fun (v : V) => (fun _ x => @decide (x = h) (Classical.propDecidable _)) v h) = fun (v : V) => (fun _ _ => true) v h := by funext v; simp
      rw [this, ← e2] at e1
      have h1' : r cf t h (fun _ x => @decide (x = h) (Classical.propDecidable _)) = @decide (h' = h) (Classical.propDecidable _) := h1
      have h2' : r cf t h (fun _ _ => true) = true := h2
      rw [e1, h2'] at h1'
      simpa using h1'.symm
    subst hh
    exact ⟨v, fun k0 => by rw [← e cf fun v _ => k0 v]; exact c2 _, k⟩
  · rintro ⟨v, g1, k⟩
    exact ⟨v, h, ⟨_, cfSome P, fun k => by show r _ t h k = _; rw [e, g1]⟩, k⟩
theorem hv_of {P : Program} {h : H} {N : Nx} {g : (V → Bool) → Bool} {v : V} (e : ∀ k, g k = k v) : HV P g h N = N.go P v h :=
  propext ⟨fun ⟨u, g1, k⟩ => by have := v_of fun k => (e k).symm.trans (g1 k); subst this; exact k, fun k => ⟨v, e, k⟩⟩
noncomputable def gBin (f : BinF) (x y : V) (k : V → Bool) : Bool := vI x fun kd a => vI y fun kd' b => ifK (kdEq kd kd') fun _ => f kd a b k
noncomputable def gShift (f : IntKind → Int → Nat → (V → Bool) → Bool) (x y : V) (k : V → Bool) : Bool := vI x fun kd a => vI y fun _ b => natK b fun n => f kd a (min n kd.bits) k
noncomputable def gRem (x y : V) (k : V → Bool) : Bool := vI y fun kd' b => vIR x (fun kd a => ifK (kdEq kd kd') fun _ => fRem kd a b k) fun kd m r _ => remR kd' b k kd m r
noncomputable def gBool (ne : Bool) (x y : V) (k : V → Bool) : Bool := vB x fun a => vB y fun b => k (.b (xor ne (xor (xor a b) true)))
noncomputable def gNot (x : V) (k : V → Bool) : Bool := vB x fun a => k (.b (!a))
noncomputable def gNeg (x : V) (k : V → Bool) : Bool := vI x fun kd n => wrapF (Int.neg n) kd (mxOf kd) k
noncomputable def gConv (kd : IntKind) (x : V) (k : V → Bool) : Bool := vIR x (fun _ n => k (.i kd (kd.wrap n))) fun _ m r hi => ifK (Nat.ble hi (mxOf kd)) fun _ => k (.r kd m r hi)
noncomputable def gExt (j : Nat) (x : V) (k : V → Bool) : Bool := vT x fun vs => optK (vs[j]?) k
noncomputable def gLenS (x : V) (k : V → Bool) : Bool := vS x fun n _ => k (.i .i64 (.ofNat n))
noncomputable def gLen (x : V) (k : V → Bool) : Bool := lenV x fun n => k (.i .i64 (n : Int))
noncomputable def gMin (x y : V) (k : V → Bool) : Bool := vI x fun kd a => vI y fun kd' b => ifK (kdEq kd kd') fun _ => k (.i kd (min a b))
noncomputable def gMMS (f : Nat → Nat → Nat → Nat → Bool) (x y : V) (k : V → Bool) : Bool := vS x fun la na => vS y fun lb nb => boolK (f la na lb nb) (fun _ => k (.s la na)) (fun _ => k (.s lb nb))
noncomputable def gMax (x y : V) (k : V → Bool) : Bool := vI x fun kd a => vI y fun kd' b => ifK (kdEq kd kd') fun _ => k (.i kd (max a b))
noncomputable def gPick (c x y : V) (k : V → Bool) : Bool := vB c fun q => k (cond q x y)
noncomputable def gField (d : Nat) (x : V) (k : V → Bool) : Bool := vA x fun cs => optK (cs[d]?) k
noncomputable def gFieldA (d size : Nat) (x : V) (k : V → Bool) : Bool := vA x fun cs => k (.a ((cs.drop d).take size))
noncomputable def gFieldAddr (d : Nat) (x : V) (k : V → Bool) : Bool := vP x fun id g off fin => k (.p id g (off + d) fin)
noncomputable def gNilCheck (x : V) (k : V → Bool) : Bool := vP x fun id g off fin => k (.p id g off fin)
noncomputable def gIndex (size : Nat) (x y : V) (k : V → Bool) : Bool := vI y fun _ n => natK n fun n => idxV size x n k
noncomputable def gIndexArr (len size : Nat) (x y : V) (k : V → Bool) : Bool := vP x fun id g off fin => vI y fun _ n => natK n fun n => ifK (Nat.ble (Nat.succ n) len) fun _ => k (.p id g (off + n * size) fin)
noncomputable def gSIndex (x y : V) (k : V → Bool) : Bool := vI y fun _ n => natK n fun n => sixV x n k
noncomputable def gAIndex (len size : Nat) (x y : V) (k : V → Bool) : Bool := vA x fun cs => vI y fun _ n => natK n fun n => ifK (Nat.ble (Nat.succ n) len) fun _ => optK (cs[Nat.mul n size]?) k
noncomputable def gSS2 (x a b : V) (k : V → Bool) : Bool := vI a fun _ p => natK p fun p => vI b fun _ q => natK q fun q => ssV x p q k
noncomputable def gSS1 (x b : V) (k : V → Bool) : Bool := vI b fun _ q => natK q fun q => ssV x 0 q k
noncomputable def gSSa (x a : V) (k : V → Bool) : Bool := vI a fun _ p => natK p fun p => ssaV x p k
noncomputable def gMoveS (x : V) (k : V → Bool) : Bool := vS x fun l n => k (.s l n)
noncomputable def gNil (f : V → (Bool → Bool) → Bool) (ne : Bool) (x y : V) (k : V → Bool) : Bool := f x fun a => f y fun b => ifK (a || b) fun _ => k (.b (xor ne (a && b)))
noncomputable def gSliceArr (n size : Nat) (x a : V) (k : V → Bool) : Bool := vP x fun id g off fin => vI a fun _ p => natK p fun p => ifK (Nat.ble p n) fun _ => sliceC size id g off n fin n p n k
section
variable {P : Program} {t : F} {h : H} {N : Nx} (o x y c : O)
theorem or_move : OR P (doMove o) t h N = N.go P (oV o t) h := (or_hv (g := fun k => k (oV o t)) fun cf k => ev_move ..).trans (hv_of fun _ => rfl)
theorem or_pick : OR P (doPick c x y) t h N = H3 P gPick (oV c t) (oV x t) (oV y t) h N := or_hv fun cf k => ev_pick ..
theorem or_bin (f : BinF) : OR P (bin2 f x y) t h N = H2 P (gBin f) (oV x t) (oV y t) h N := or_hv fun cf k => ev_bin ..
theorem or_shift (f : IntKind → Int → Nat → (V → Bool) → Bool) : OR P (doShift f x y) t h N = H2 P (gShift f) (oV x t) (oV y t) h N := or_hv fun cf k => ev_shift ..
theorem or_rem : OR P (doRem x y) t h N = H2 P gRem (oV x t) (oV y t) h N := or_hv fun cf k => ev_rem ..
theorem or_bool (ne : Bool) : OR P (doBool ne x y) t h N = H2 P (gBool ne) (oV x t) (oV y t) h N := or_hv fun cf k => ev_bool ..
theorem or_not : OR P (doNot x) t h N = H1 P gNot (oV x t) h N := or_hv fun cf k => ev_not ..
theorem or_neg : OR P (doNeg x) t h N = H1 P gNeg (oV x t) h N := or_hv fun cf k => by simp only [doNeg, oE_eq]; rfl
theorem or_conv (kd : IntKind) : OR P (doConv kd x) t h N = H1 P (gConv kd) (oV x t) h N := or_hv fun cf k => ev_convR ..
theorem or_ext (j : Nat) : OR P (doExtract j x) t h N = H1 P (gExt j) (oV x t) h N := or_hv fun cf k => ev_extract ..
theorem or_lenS : OR P (doLenS x) t h N = H1 P gLenS (oV x t) h N := or_hv fun cf k => ev_lenS ..
theorem or_len : OR P (doLen x) t h N = H1 P gLen (oV x t) h N := or_hv fun cf k => ev_len ..
theorem or_min : OR P (doMin x y) t h N = H2 P gMin (oV x t) (oV y t) h N := or_hv fun cf k => ev_min ..
theorem or_mms (f : Nat → Nat → Nat → Nat → Bool) : OR P (doMMS f x y) t h N = H2 P (gMMS f) (oV x t) (oV y t) h N := or_hv fun cf k => by simp only [doMMS, oE_eq]; rfl
theorem or_max : OR P (doMax x y) t h N = H2 P gMax (oV x t) (oV y t) h N := or_hv fun cf k => ev_max ..
theorem or_field (d : Nat) : OR P (doField d o) t h N = H1 P (gField d) (oV o t) h N := or_hv fun cf k => ev_field ..
theorem or_fieldA (d size : Nat) : OR P (doFieldA d size o) t h N = H1 P (gFieldA d size) (oV o t) h N := or_hv fun cf k => ev_fieldA ..
theorem or_fieldAddr (d : Nat) : OR P (doFieldAddr d o) t h N = H1 P (gFieldAddr d) (oV o t) h N := or_hv fun cf k => ev_fieldAddr ..
theorem or_nilCheck : OR P (doNilCheck o) t h N = H1 P gNilCheck (oV o t) h N := or_hv fun cf k => ev_nilCheck ..
theorem or_idx (size : Nat) : OR P (doIndexAddr size o x) t h N = H2 P (gIndex size) (oV o t) (oV x t) h N := or_hv fun cf k => ev_idx ..
theorem or_idxArr (len size : Nat) : OR P (doIndexAddrArr len size o x) t h N = H2 P (gIndexArr len size) (oV o t) (oV x t) h N := or_hv fun cf k => ev_idxArr ..
theorem or_sindex : OR P (doSIndex x y) t h N = H2 P gSIndex (oV x t) (oV y t) h N := or_hv fun cf k => ev_sindex ..
theorem or_aindex (len size : Nat) : OR P (doAIndex len size x y) t h N = H2 P (gAIndex len size) (oV x t) (oV y t) h N := or_hv fun cf k => by simp only [doAIndex, oE_eq, forceV_eq]; rfl
theorem or_concat : OR P (doConcat x y) t h N = H2 P catV (oV x t) (oV y t) h N := or_hv fun cf k => ev_concat ..
theorem or_scmp (f : Nat → Nat → Nat → Nat → Bool) : OR P (doSCmp f x y) t h N = H2 P (scV f) (oV x t) (oV y t) h N := or_hv fun cf k => ev_scmp ..
theorem or_cmpS : OR P (doCmpS x y) t h N = H2 P cmV (oV x t) (oV y t) h N := or_hv fun cf k => ev_cmpS ..
theorem or_ss2 (a b : O) : OR P (doSSlice x (some a) (some b)) t h N = H3 P gSS2 (oV x t) (oV a t) (oV b t) h N := or_hv fun cf k => ev_ss2 ..
theorem or_ss1 (b : O) : OR P (doSSlice x none (some b)) t h N = H2 P gSS1 (oV x t) (oV b t) h N := or_hv fun cf k => ev_ss1 ..
theorem or_ssa (a : O) : OR P (doSSlice x (some a) none) t h N = H2 P gSSa (oV x t) (oV a t) h N := or_hv fun cf k => ev_ssa ..
theorem or_moveS : OR P (doMoveS x) t h N = H1 P gMoveS (oV x t) h N := or_hv fun cf k => by simp only [doMoveS, oE_eq]; rfl
theorem or_nil (f : V → (Bool → Bool) → Bool) (ne : Bool) : OR P (doNil f ne x y) t h N = H2 P (gNil f ne) (oV x t) (oV y t) h N := or_hv fun cf k => by simp only [doNil, oE_eq, fB_eq]; rfl
theorem or_sliceArr (n size : Nat) (a : O) : OR P (doSliceArr n size x (some a) none) t h N = H2 P (gSliceArr n size) (oV x t) (oV a t) h N := or_hv fun cf k => ev_sliceArr ..
end
end Go.Ev

set_option linter.all false
namespace Go.Ev
open Go
/-- a block of the call's own, with its elements' type -/
def OwnE (h : H) (id : B) (el : Nat) (xs : List V) : Prop := ∃ blk, h.heap.get id = some blk ∧ blk.cur = 0 ∧ blk.min = 0 ∧ blk.fr = 0 ∧ blk.el = el ∧ B.val h.floor ≤ B.val id ∧ B.val id < B.val h.next ∧ ∀ i y, xs[i]? = some y → blk.cells.getN i = some y
theorem OwnE.own {h : H} {id : B} {el : Nat} {xs : List V} (o : OwnE h id el xs) : Own h id xs := by
  obtain ⟨blk, h1, h2, h3, h4, h5, h6, h7, h8⟩ := o
  exact ⟨blk, h1, h2, h3, h4, h6, h7, h8⟩
theorem OwnE.stay {p : B → Prop} {h h' : H} {id : B} {el : Nat} {xs : List V} (o : OwnE h id el xs) (s : Stay p h h') (hp : ¬ p id) : OwnE h' id el xs := by
  obtain ⟨blk, h1, h2, h3, h4, h5, h6, h7, h8⟩ := o
  exact ⟨blk, (s.get id h7 hp).trans h1, h2, h3, h4, h5, by rw [s.floor]; exact h6, Nat.lt_of_lt_of_le h7 s.next, h8⟩
theorem OwnE.lt {h : H} {id : B} {el : Nat} {xs : List V} (o : OwnE h id el xs) : B.val id < B.val h.next := by obtain ⟨_, _, _, _, _, _, _, h7, _⟩ := o; exact h7
theorem store_ownE {h : H} {id : B} {el : Nat} {xs : List V} {j fin : Nat} {y : V} (o : OwnE h id el xs) (hj : j < fin) (hfit : j < 2 ^ 37) (h1 : oneV y = true) : ∃ h', (∀ k, store h id 0 j fin [y] k = k h') ∧ OwnE h' id el (xs.set j y) ∧ Stay (fun i => i = id) h h' := by
  obtain ⟨blk, a1, a2, a3, a4, a8, a5, a6, a7⟩ := o
  obtain ⟨next, floor, heap⟩ := h
  obtain ⟨cur, min, sz, cells, bel, fr⟩ := blk
  simp only at a2 a3 a4 a7 a8
  subst a2; subst a3; subst a4; subst a8
  obtain ⟨tr, t1, t2, t3⟩ := setList_fine [y] j cells (by simp; omega)
  obtain ⟨hp, s1, s2, s3⟩ := setK_ok id (⟨0, 0, sz, tr, bel, 0⟩ : Blk) heap
  have e1 : B.geB floor id = true := by cases floor <;> first | rfl | (show Nat.ble _ _ = true; rw [Nat.ble_eq]; exact a5)
  have e2 : Nat.ble (Nat.add j 1) fin = true := by rw [Nat.ble_eq]; exact hj
  have e3 : allOne [y] = true := by show Bool.rec false true (oneV y) = true; rw [h1]
  have e4 : frOk 0 j = true := rfl
  have e5 : Nat.beq 0 0 = true := rfl
  have e6 : Nat.ble 0 0 = true := rfl
  have a1' : heap.get id = some ⟨0, 0, sz, cells, bel, 0⟩ := a1
  refine ⟨⟨next, floor, hp⟩, fun k => ?_, ⟨_, s2, rfl, rfl, rfl, rfl, a5, a6, fun i z hz => ?_⟩, ⟨rfl, Nat.le_refl _, fun i _ hi => s3 i hi⟩⟩
  · simp only [store, hK_mk, a1', optK_some, blkK_mk, List.length_singleton, e5, e6, e1, e2, e3, e4, ifK_true]
    rw [t1, s1]
  · show tr.getN i = some z
    rw [List.getElem?_set] at hz
    split at hz
    · rename_i hij
      subst hij
      split at hz
      · cases hz
        exact t2 0 y rfl
      · cases hz
    · rename_i hij
      rw [t3 i (by simp; omega)]
      exact a7 i z hz
section
variable {P : Program} {S : Spec} {l : List CO} {t : F} {h : H} {K : F → H → Prop}
end
theorem elK_own {h : H} {id : B} {el : Nat} {xs : List V} (o : OwnE h id el xs) (k : Unit → Bool) : elK h id 0 el k = k () := by
  obtain ⟨blk, h1, h2, h3, h4, h5, h6, h7, h8⟩ := o
  obtain ⟨next, floor, heap⟩ := h
  obtain ⟨cur, min, sz, cells, bel, fr⟩ := blk
  simp only at h3 h5
  subst h3; subst h5
  have h1' : heap.get id = some ⟨cur, 0, sz, cells, bel, fr⟩ := h1
  have e1 : Nat.ble 0 0 = true := rfl
  have e2 : Nat.beq bel bel = true := Nat.beq_refl bel
  simp only [elK, hK_mk, h1', optK_some, blkK_mk, e1, e2, ifK_true]
section
variable (cf : CallF) (t : F) (h : H) (k : V → H → Bool) (x y : O)
theorem ev_p2u : doP2U x cf t h k = vP (oV x t) fun id g off fin => load1 h id g off fin fun _ => k (.p id g off fin) h := by simp only [doP2U, oE_eq]
theorem ev_u2p (u size : Nat) : doU2P u size x cf t h k = vP (oV x t) fun id g off fin => ifK (Nat.beq off 0) fun _ => ifK (Nat.ble size fin) fun _ => elK h id g u fun _ => k (.p id g off fin) h := by simp only [doU2P, oE_eq]
theorem ev_ptr (ne : Bool) : doPtr ne x y cf t h k = vPZ (oV x t) (fun _ => vPZ (oV y t) (fun _ => k (.b (!ne)) h) fun _ _ _ _ => k (.b ne) h) (ptrK ne (oV y t) fun v => k v h) := by simp only [doPtr, oE_eq, fB_eq]
theorem ptrK_p0 (ne : Bool) (k : V → Bool) (id : B) (g off fin : Nat) : ptrK ne .p0 k id g off fin = k (.b ne) := by
  unfold ptrK
  rw [vPZ_p0, fB_eq]
theorem ptrK_same (ne : Bool) (k : V → Bool) (id : B) (g off fin fin' : Nat) : ptrK ne (.p id g off fin) k id g off fin' = k (.b (xor ne true)) := by
  unfold ptrK
  rw [vPZ_p, Nat.beq_refl, ifK_true, Nat.beq_refl, ifK_true, Nat.beq_refl, fB_eq]
theorem ev_sdata : doSData x cf t h k = vL (oV x t) (fun _ => k .p0 h) fun id g off len fin _ => ifK (Nat.ble 1 len) fun _ => k (.p id g off fin) h := by simp only [doSData, oE_eq]
end
theorem unpK_map : ∀ (m : Nat) (l : List UInt8) (acc : List V) (k : List V → Bool), l.length = m → unpK m (pk l) acc k = k (l.map bv ++ acc) := by
  intro m
  induction m with
  | zero =>
    intro l acc k h
    have : l = [] := List.eq_nil_of_length_eq_zero h
    subst this; rfl
  | succ m ih =>
    intro l acc k h
    have hne : l ≠ [] := by intro h0; subst h0; simp at h
    obtain ⟨l', b, rfl⟩ : ∃ l' b, l = l' ++ [b] := ⟨l.dropLast, l.getLast hne, (List.dropLast_concat_getLast hne).symm⟩
    have hs := pk_split l' [b]
    have hb : pk [b] = b.toNat := by simp [pk]
    simp only [List.length_cons, List.length_nil, Nat.zero_add, Nat.pow_one, hb] at hs
    show fN (Nat.mod (pk (l' ++ [b])) 256) (fun c => fN (Nat.div (pk (l' ++ [b])) 256) fun n => unpK m n (.i .u8 (.ofNat c) :: acc) k) = _
    rw [fN_eq, fN_eq]
    have e1 : Nat.mod (pk (l' ++ [b])) 256 = b.toNat := hs.2
    have e2 : Nat.div (pk (l' ++ [b])) 256 = pk l' := hs.1
    rw [e1, e2, ih l' _ k (by simpa using h)]
    simp [bv]
theorem allOne_bv : ∀ l : List UInt8, allOne (l.map bv) = true
  | [] => rfl
  | _ :: l => allOne_bv l
section
variable {P : Program} {S : Spec} {l : List CO} {t : F} {h : H} {K : F → H → Prop}
end
/-- a text out of a slice's bytes, which are frozen -/
theorem ustr_eq {h : H} {el : Nat} {w : V} {a : List UInt8} (hb : Buf h el 1 w (a.map bv)) (hl : a.length ≤ 1048576) (cf : CallF) (t : F) (x y : O)
    (e1 : ∀ k : V → Bool, vL w (fun _ => k .p0) (fun id g off len fin _ => k (.p id g off fin)) = k (oV x t)) (e2 : oV y t = .i .i64 (a.length : Int)) :
    ∃ h', (∀ k, doUStr el x y cf t h k = k (sv a) h') ∧ Stay (isOf w) h h' := by
  rcases hb with ⟨rfl, e⟩ | ⟨id, g, n, blk, rfl, b1, b2, b3, b4, b5, b6, b7, b8, b9, b10⟩
  · have : a = [] := by simpa using e
    subst this
    have hx : oV x t = .p0 := by
      have := e1 fun v => @decide (v = oV x t) (Classical.propDecidable _)
      simp at this
      exact this.symm
    refine ⟨h, fun k => ?_, Stay.refl _ _⟩
    simp only [doUStr, oE_eq, hx, e2, vI_i, kdEq_self, ifK_true, natK_cast, vPZ_p0]
    rfl
  · have hx : oV x t = .p id g 0 (a.map bv).length := by
      have := e1 fun v => @decide (v = oV x t) (Classical.propDecidable _)
      simp at this
      rw [← this]; simp
    have hn : n = a.length := by rw [List.length_map, Nat.mul_one] at b2; exact b2.symm
    subst hn
    have hrow : Row h id g 0 (a.map bv) := ⟨fun _ => ⟨blk, b5, b6.1⟩, fun i y hy => by
      unfold Ev.cell cellB
      rw [b5]
      show (if blk.min ≤ g then blk.cells.getN (0 + i) else none) = _
      rw [if_pos b6.1, Nat.zero_add]
      exact b10 i y hy⟩
    have hld : ∀ k, loadN h id g 0 (a.map bv).length a.length k = k (a.map bv) := fun k => by
      have := loadN_row (n := (a.map bv).length) hrow rfl (by intro h0; have := congrArg List.length h0; simp at this; subst this; simp at b1) (by omega : 0 + (a.map bv).length ≤ (a.map bv).length) k
      rwa [List.length_map] at this ⊢
    obtain ⟨next, floor, heap⟩ := h
    obtain ⟨cur, min, sz, cells, bel, fr⟩ := blk
    simp only at b6 b7 b8 b9 b10
    subst b9; subst b8
    obtain ⟨hp, s1, s2, s3⟩ := setK_ok id (⟨cur, min, sz, cells, bel, a.length + 2⟩ : Blk) heap
    have b5' : heap.get id = some ⟨cur, min, sz, cells, bel, 0⟩ := b5
    have g1 : Nat.ble min g = true := by rw [Nat.ble_eq]; exact b6.1
    have g2 : Nat.beq bel bel = true := Nat.beq_refl bel
    have g3 : B.geB floor id = true := by cases floor <;> first | rfl | (show Nat.ble _ _ = true; rw [Nat.ble_eq]; exact b3)
    have g4 : Nat.ble 1 a.length = true := by rw [Nat.ble_eq]; exact b1
    have g5 : Nat.ble a.length 1048576 = true := by rw [Nat.ble_eq]; exact hl
    refine ⟨⟨next, floor, hp⟩, fun k => ?_, ⟨rfl, Nat.le_refl _, fun i _ hi => s3 i fun e => hi (by subst e; exact ⟨_, _, _, _, _, rfl⟩)⟩⟩
    simp only [doUStr, oE_eq, hx, e2, vI_i, kdEq_self, ifK_true, natK_cast, vPZ_p]
    unfold uStrK
    have g6 : Nat.beq 0 0 = true := rfl
    rw [g6, ifK_true, g4, ifK_true, g5, ifK_true]
    simp only [elK, hK_mk, b5', optK_some, blkK_mk, g1, g2, ifK_true]
    rw [hld, pack_bv]
    have e0 : 0 * 256 ^ a.length + pk a = pk a := by rw [Nat.zero_mul, Nat.zero_add]
    rw [e0]
    simp only [freezeK, hK_mk, b5', optK_some, blkK_mk, g3, ifK_true]
    show fN (Nat.add a.length 2) (fun fr' => T.setK id ⟨cur, min, sz, cells, bel, fr'⟩ heap fun heap => k (.s a.length (pk a)) ⟨next, floor, heap⟩) = _
    rw [fN_eq]
    exact s1 _
/-- a Builder of the call's own, behind 'lo', in the blocks U, with the bytes a -/
structure Sb (h : H) (lo elB el8 : Nat) (id : B) (U : B → Prop) (a : List UInt8) : Prop where
  made : ∃ adr w, OwnE h id elB [adr, w] ∧ (adr = .p0 ∨ adr = .p id 0 0 2) ∧ Buf h el8 1 w (a.map bv) ∧ (∀ i, isOf w i → U i) ∧ ¬ isOf w id
  self : U id
  lo : ∀ i, U i → lo ≤ B.val i ∧ B.val i < B.val h.next
theorem Sb.stay {h h' : H} {lo elB el8 : Nat} {id : B} {U p : B → Prop} {a : List UInt8} (s : Sb h lo elB el8 id U a) (st : Stay p h h') (hp : ∀ i, U i → ¬ p i) : Sb h' lo elB el8 id U a := by
  obtain ⟨⟨adr, w, o, ha, b, hw, hn⟩, hs, hlo⟩ := s
  exact ⟨⟨adr, w, o.stay st (hp _ hs), ha, b.stay st fun i hi => hp i (hw i hi), hw, hn⟩, hs, fun i hi => ⟨(hlo i hi).1, Nat.lt_of_lt_of_le (hlo i hi).2 st.next⟩⟩
/-- a slice of one-cell elements of the call's own, behind 'lo' -/
structure Vb (h : H) (lo el : Nat) (v : V) (xs : List V) : Prop where
  buf : Buf h el 1 v xs
  own : ∀ i, isOf v i → lo ≤ B.val i
theorem Vb.lst {h : H} {lo el : Nat} {v : V} {xs : List V} (a : Vb h lo el v xs) : Lst h v xs := a.buf.lst
theorem Vb.nil (h : H) (lo el : Nat) : Vb h lo el .l0 [] := ⟨Buf.nil h el 1, fun i hi => by obtain ⟨_, _, _, _, _, e⟩ := hi; cases e⟩
theorem Vb.stay {p : B → Prop} {h h' : H} {lo el : Nat} {v : V} {xs : List V} (a : Vb h lo el v xs) (s : Stay p h h') (hp : ∀ i, isOf v i → ¬ p i) : Vb h' lo el v xs := ⟨a.buf.stay s hp, a.own⟩
theorem Vb.grow {h h' : H} {lo el : Nat} {v : V} {xs : List V} (a : Vb h lo el v xs) (s : Stay nowhere h h') : Vb h' lo el v xs := ⟨a.buf.grow s, a.own⟩
/-- a new slice of bytes, in a block of the call's own that begins at 0; its end is marked, so that it is no Buf -/
theorem s2b_new (el : Nat) {l : List UInt8} {h : H} (hf : B.val h.floor ≤ B.val h.next) (hl : l.length ≤ 1048576) :
    ∃ h', (∀ (x : O) (t : F) (cf : CallF) (k : V → H → Bool), oV x t = sv l → doS2B el x cf t h k = k (.l h.next 0 0 l.length l.length (capF l.length)) h') ∧ Stay nowhere h h' ∧ B.val h'.next = B.val h.next + 1 ∧
      Row h' h.next 0 0 (l.map bv) ∧ Lst h' (.l h.next 0 0 l.length l.length (capF l.length)) (l.map bv) ∧
      ∃ cells, h'.heap.get h.next = some ⟨0, 0, l.length, cells, el, 1⟩ ∧ ∀ i y, (l.map bv)[i]? = some y → cells.getN i = some y := by
  obtain ⟨⟨nx, fl, heap⟩, a1, a2, a3, ⟨cur, min, sz, cells, bel, fr⟩, b1, b2, b3, b4, b5, b6, b7⟩ := alloc_new el (l.map bv) h (by simp; omega)
  simp only at b2 b3 b4 b5 b6 b7
  subst b2; subst b3; subst b5; subst b6
  rw [List.length_map] at b4
  subst b4
  obtain ⟨hp, s1, s2, s3⟩ := setK_ok h.next (⟨0, 0, l.length, cells, bel, 1⟩ : Blk) heap
  have hfl : fl = h.floor := a2.floor
  have g3 : B.geB fl h.next = true := by
    rw [hfl]
    cases hfx : h.floor <;> first | rfl | (rw [hfx] at hf; show Nat.ble _ _ = true; rw [Nat.ble_eq]; exact hf)
  have g5 : Nat.ble l.length 1048576 = true := by rw [Nat.ble_eq]; exact hl
  have b1' : heap.get h.next = some ⟨0, 0, l.length, cells, bel, 0⟩ := b1
  have hrow : Row ⟨nx, fl, hp⟩ h.next 0 0 (l.map bv) := by
    refine ⟨fun _ => ⟨_, s2, Nat.le_refl _⟩, fun i y hy => ?_⟩
    unfold Ev.cell cellB
    show (match hp.get h.next with | some b => if b.min ≤ 0 then b.cells.getN (0 + i) else none | none => none) = _
    rw [s2]
    simp only [Nat.le_refl, if_true, Nat.zero_add]
    exact b7 i y hy
  refine ⟨⟨nx, fl, hp⟩, fun x t cf k e => ?_, ⟨a2.floor, a2.next, fun id h1 h2 => (s3 id fun e => by rw [e] at h1; exact absurd h1 (Nat.lt_irrefl _)).trans (a2.get id h1 h2)⟩, a3, hrow,
    .inr ⟨h.next, 0, 0, l.length, capF l.length, by rw [List.length_map], by rw [List.length_map]; omega, by show B.val h.next < B.val nx; have : B.val nx = B.val h.next + 1 := a3; omega, hrow⟩, cells, s2, b7⟩
  simp only [doS2B, oE_eq, e]
  show ifK (Nat.ble l.length 1048576) (fun _ => unpK l.length (pk l) [] fun vs => alloc bel vs h fun id h => markK h id fun h => k (.l id 0 0 l.length l.length (capF l.length)) h) = _
  rw [g5, ifK_true, unpK_map _ _ _ _ rfl, List.append_nil, a1]
  simp only [markK, hK_mk, b1', optK_some, blkK_mk, g3, ifK_true]
  have g0 : Nat.beq 0 0 = true := rfl
  rw [g0, ifK_true]
  exact s1 _
section
variable {P : Program} {S : Spec} {l : List CO} {t : F} {h : H} {K : F → H → Prop}
end
/-- v is the newest slice of its block -/
def Top (h : H) (v : V) : Prop := ∀ id g off n fin cap, v = .l id g off n fin cap → ∃ blk, h.heap.get id = some blk ∧ blk.cur = g
theorem Top.nil (h : H) : Top h .l0 := fun _ _ _ _ _ _ e => by cases e
theorem Top.stay {p : B → Prop} {h h' : H} {v : V} (a : Top h v) (s : Stay p h h') (hl : ∀ id, isOf v id → B.val id < B.val h.next) (hp : ∀ id, isOf v id → ¬ p id) : Top h' v := fun id g off n fin cap e => by
  obtain ⟨blk, h1, h2⟩ := a id g off n fin cap e
  have i : isOf v id := ⟨_, _, _, _, _, e⟩
  exact ⟨blk, (s.get id (hl id i) (hp id i)).trans h1, h2⟩
theorem append_top {h : H} {el size n : Nat} {v : V} {xs vs : List V} (b : Buf h el size v xs) (hf : B.val h.floor ≤ B.val h.next) (hsz : 1 ≤ size) (hn : vs.length = n * size) (h1 : allOne vs = true) (hb : xs.length + vs.length ≤ 1048576) :
    ∃ v' h', (∀ k, append2 el size v n vs h k = k v' h') ∧ Buf h' el size v' (xs ++ vs) ∧ Stay (isOf v) h h' ∧ (∀ id, isOf v' id → isOf v id ∨ B.val h.next ≤ B.val id) ∧ Top h' v' := by
  have hle : n ≤ vs.length := by rw [hn]; exact Nat.le_mul_of_pos_right _ hsz
  rcases b with ⟨rfl, rfl⟩ | ⟨id, g, m, blk, rfl, b1, b2, b3, b4, b5, b6, b7, b8, b9, b10⟩
  · cases n with
    | zero =>
      have : vs = [] := List.eq_nil_of_length_eq_zero (by simpa using hn)
      subst this
      exact ⟨.l0, h, fun k => rfl, Buf.nil h el size, Stay.refl _ h, fun id i => .inl i, fun _ _ _ _ _ _ e => by cases e⟩
    | succ n =>
      obtain ⟨h', a1, a2, a3, blk, c1, c2, c3, c4, c5, c6, c7⟩ := alloc_new el vs h (by omega)
      have hble : Nat.ble (n + 1) 1048576 = true := by rw [Nat.ble_eq]; simp at hb; omega
      refine ⟨.l h.next 0 0 (n + 1) vs.length none, h', fun k => ?_, .inr ⟨h.next, 0, n + 1, blk, rfl, by omega, hn, by rw [a2.floor]; exact hf, by omega, c1, ⟨by omega, by omega⟩, c4, c5, c6, c7⟩, a2.mono fun _ _ h => h.elim, fun id i => ?_, fun _ _ _ _ _ _ e => by cases e; exact ⟨blk, c1, c3⟩⟩
      · show (ifK (Nat.ble (n + 1) 1048576) fun _ => alloc el vs h fun id h => k (.l id 0 0 (n + 1) vs.length none) h) = _
        rw [hble, ifK_true, a1]
      · obtain ⟨_, _, _, _, _, e⟩ := i; cases e; exact .inr (Nat.le_refl _)
  · obtain ⟨next, floor, heap⟩ := h
    obtain ⟨cur, min, sz, cells, bel, fr⟩ := blk
    simp only at b6 b7 b8 b9 b10
    obtain ⟨tr, t1, t2, t3⟩ := setList_fine vs sz cells (by omega)
    obtain ⟨hp, s1, s2, s3⟩ := setK_ok id (⟨Nat.succ cur, min, Nat.add sz (Nat.mul n size), tr, bel, fr⟩ : Blk) heap
    have e1 : Nat.ble min g = true := by rw [Nat.ble_eq]; exact b6.1
    have e2 : B.geB floor id = true := by
      cases floor <;> first | rfl | (show Nat.ble _ _ = true; rw [Nat.ble_eq]; exact b3)
    have e3 : Nat.add 0 (Nat.mul m size) = sz := by
      show 0 + m * size = sz
      omega
    have e3' : Nat.ble sz sz = true := by rw [Nat.ble_eq]; exact Nat.le_refl _
    have e4 : Nat.beq xs.length sz = true := by rw [b7]; simp
    have e4' : Nat.beq sz sz = true := Nat.beq_refl _
    have e9 : capZ size (Nat.add m n) = none := capZ_pos (by show 1 ≤ m + n; omega)
    have e5 : Nat.ble 1 m = true := by rw [Nat.ble_eq]; exact b1
    have hm : m ≤ xs.length := by rw [b2]; exact Nat.le_mul_of_pos_right _ hsz
    have e6 : Nat.ble (Nat.add m n) 1048576 = true := by rw [Nat.ble_eq]; show m + n ≤ 1048576; omega
    have e7 : frOk fr sz = true := by rw [b9]; rfl
    have e8 : Nat.beq bel el = true := by rw [b8]; simp
    refine ⟨.l id (Nat.succ cur) 0 (m + n) (sz + n * size) none, ⟨next, floor, hp⟩, fun k => ?_, .inr ⟨id, Nat.succ cur, m + n, _, ?_, by omega, ?_, b3, b4, s2, ?_, ?_, b8, b9, fun i y hy => ?_⟩, ⟨rfl, Nat.le_refl _, fun id' _ hne => s3 id' fun e => hne (by subst e; exact ⟨_, _, _, _, _, rfl⟩)⟩, fun id' i => ?_, fun _ _ _ _ _ _ e => by cases e; exact ⟨_, s2, rfl⟩⟩
    · show appGrow (Nat.ble 1 m) el id g 0 m xs.length size n vs ⟨next, floor, heap⟩ k = _
      have b5' : heap.get id = some ⟨cur, min, sz, cells, bel, fr⟩ := b5
      simp only [appGrow, hK_mk, b5', optK_some, blkK_mk, fN_eq, e3, e1, e2, e3', e4, e4', selN_t, e5, e6, h1, e7, e8, e9, ifK_true]
      rw [t1, s1]; rfl
    · show V.l id (Nat.succ cur) 0 (m + n) (sz + n * size) none = V.l id (Nat.succ cur) 0 (m + n) (xs ++ vs).length none
      rw [List.length_append, hn, b7]
    · rw [List.length_append, hn, b2, Nat.add_mul]
    · exact ⟨by show min ≤ cur + 1; omega, Nat.le_refl _⟩
    · show Nat.add sz (Nat.mul n size) = (xs ++ vs).length
      rw [List.length_append, hn, b7]; rfl
    · show tr.getN i = some y
      by_cases hi : i < xs.length
      · rw [t3 i (.inl (by omega))]
        refine b10 i y ?_
        rwa [List.getElem?_append_left hi] at hy
      · have hi' : i - xs.length < vs.length := by
          have := (List.getElem?_eq_some_iff.1 hy).1
          simp at this; omega
        rw [List.getElem?_append_right (by omega)] at hy
        have := t2 (i - xs.length) y hy
        rwa [show sz + (i - xs.length) = i by omega] at this
    · obtain ⟨_, _, _, _, _, e⟩ := i; cases e; exact .inl ⟨_, _, _, _, _, rfl⟩
/-- at one place written -/
theorem store_buf {h : H} {el : Nat} {v : V} {xs : List V} {j : Nat} {y : V} (b : Buf h el 1 v xs) (tp : Top h v) (hj : j < xs.length) (hfit : j < 2 ^ 37) (h1 : oneV y = true) :
    ∃ h', (∀ k, store h (lid v) (lg v) (loff v + j) (lfin v) [y] k = k h') ∧ Buf h' el 1 v (xs.set j y) ∧ Top h' v ∧ Stay (isOf v) h h' := by
  rcases b with ⟨rfl, rfl⟩ | ⟨id, g, m, blk, rfl, b1, b2, b3, b4, b5, b6, b7, b8, b9, b10⟩
  · exact absurd hj (Nat.not_lt_zero _)
  obtain ⟨blk', b5', hcur⟩ := tp id g 0 m xs.length none rfl
  have hbb : blk' = blk := by rw [b5] at b5'; exact (Option.some.inj b5').symm
  subst hbb
  obtain ⟨next, floor, heap⟩ := h
  obtain ⟨cur, min, sz, cells, bel, fr⟩ := blk'
  simp only at b6 b7 b8 b9 b10 hcur
  subst hcur; subst b9
  obtain ⟨tr, t1, t2, t3⟩ := setList_fine [y] j cells (by simp; omega)
  obtain ⟨hp, s1, s2, s3⟩ := setK_ok id (⟨cur, cur, sz, tr, bel, 0⟩ : Blk) heap
  have e1 : B.geB floor id = true := by cases floor <;> first | rfl | (show Nat.ble _ _ = true; rw [Nat.ble_eq]; exact b3)
  have e2 : Nat.ble (Nat.add j 1) xs.length = true := by rw [Nat.ble_eq]; exact hj
  have e3 : allOne [y] = true := by show Bool.rec false true (oneV y) = true; rw [h1]
  have e4 : frOk 0 j = true := rfl
  have e5 : Nat.beq cur cur = true := Nat.beq_refl cur
  have e6 : Nat.ble min cur = true := by rw [Nat.ble_eq]; exact b6.1
  have b5'' : heap.get id = some ⟨cur, min, sz, cells, bel, 0⟩ := b5
  refine ⟨⟨next, floor, hp⟩, fun k => ?_, .inr ⟨id, cur, m, _, by rw [List.length_set], b1, by rw [List.length_set]; exact b2, b3, b4, s2, ⟨Nat.le_refl _, Nat.le_refl _⟩, by rw [List.length_set]; exact b7, b8, rfl, fun i z hz => ?_⟩, fun _ _ _ _ _ _ e => by cases e; exact ⟨_, s2, rfl⟩, ⟨rfl, Nat.le_refl _, fun i _ hi => s3 i fun e => hi (by subst e; exact ⟨_, _, _, _, _, rfl⟩)⟩⟩
  · show store ⟨next, floor, heap⟩ id cur (0 + j) xs.length [y] k = _
    rw [Nat.zero_add]
    simp only [store, hK_mk, b5'', optK_some, blkK_mk, List.length_singleton, e5, e6, e1, e2, e3, e4, ifK_true]
    rw [t1, s1]
  · show tr.getN i = some z
    rw [List.getElem?_set] at hz
    split at hz
    · rename_i hij
      subst hij
      first
      | (rw [if_pos hj] at hz; cases hz; exact t2 0 y rfl)
      | (cases hz; exact t2 0 y rfl)
    · rename_i hij
      rw [t3 i (by simp; omega)]
      exact b10 i z hz
section
variable {P : Program} {S : Spec} {l : List CO} {t : F} {h : H} {K : F → H → Prop}
end
noncomputable def slLoV (size : Nat) (v w : V) (k : V → Bool) : Bool := vL v (fun _ => vI w fun _ n => natK n fun a => ifK (Nat.beq a 0) fun _ => ifK (Nat.beq 0 0) fun _ => k .l0) fun id g off len fin cap => vI w fun _ n => natK n fun a => ifK (Nat.ble a len) fun _ =>
  Option.rec (fun id g off len fin a b k => sliceN size id g off len fin a b fun v => k v) (fun c id g off len fin a b k => boolK (flagB c) (fun _ => ifK (Nat.beq b 0) fun _ => k (.l id g off 0 off (some c))) (fun _ => sliceC size id g off len fin c a b fun v => k v)) cap id g off len fin a len k
noncomputable def slHiV (size : Nat) (v w : V) (k : V → Bool) : Bool := vL v (fun _ => vI w fun _ n => natK n fun b => ifK (Nat.beq 0 0) fun _ => ifK (Nat.beq b 0) fun _ => k .l0) fun id g off len fin cap => vI w fun _ n => natK n fun b => ifK (Nat.ble 0 b) fun _ =>
  Option.rec (fun id g off len fin a b k => sliceN size id g off len fin a b fun v => k v) (fun c id g off len fin a b k => boolK (flagB c) (fun _ => ifK (Nat.beq b 0) fun _ => k (.l id g off 0 off (some c))) (fun _ => sliceC size id g off len fin c a b fun v => k v)) cap id g off len fin 0 b k
section
variable {cf : CallF} {t : F} {h : H} {k : V → H → Bool} {x a : O}
theorem ev_slLo (size : Nat) : doSlice size x (some a) none cf t h k = slLoV size (oV x t) (oV a t) fun v => k v h := by
  unfold slLoV
  simp only [doSlice, oE_eq, boundK]
  congr 1
  funext id g off len fin cap
  congr 1; funext _ n; congr 1; funext a; congr 1; funext _
  cases cap with
  | none => rfl
  | some c =>
    show boolK (flagB c) _ _ = boolK (flagB c) _ _
    cases flagB c <;> rfl
theorem ev_slHi (size : Nat) : doSlice size x none (some a) cf t h k = slHiV size (oV x t) (oV a t) fun v => k v h := by
  unfold slHiV
  simp only [doSlice, oE_eq, boundK]
  congr 1
  funext id g off len fin cap
  congr 1; funext _ n; congr 1; funext a; congr 1; funext _
  cases cap with
  | none => rfl
  | some c =>
    show boolK (flagB c) _ _ = boolK (flagB c) _ _
    cases flagB c <;> rfl
end
/-- the part behind n of a row that is made -/
def tailV (id : B) (K n : Nat) : V := if n = K then .l id 0 0 0 K (some 0) else .l id 0 n (K - n) K (some (K - n))
theorem slLo_row {id : B} {K n : Nat} {kd : IntKind} (hKM : K < 18446744073709551616) (hn : n ≤ K) (k : V → Bool) : slLoV 1 (.l id 0 0 K K (some K)) (.i kd (n : Int)) k = k (tailV id K n) := by
  have e1 : Nat.ble n K = true := by rw [Nat.ble_eq]; exact hn
  have e2 : Nat.ble K K = true := by rw [Nat.ble_eq]; exact Nat.le_refl _
  unfold slLoV tailV
  simp only [vL_l, vI_i, natK_cast, e1, ifK_true]
  by_cases e : n = K
  · subst e
    rw [if_pos rfl]
    show boolK (flagB n) _ (fun _ => sliceC 1 id 0 0 n n n n n fun v => k v) = _
    rw [flagB_of hKM, boolK_false]
    have e0 : Nat.ble (Nat.succ n) 18446744073709551616 = true := by rw [Nat.ble_eq]; exact hKM
    have e3 : Nat.beq n n = true := Nat.beq_refl n
    unfold sliceC
    rw [e0, ifK_true, e2, ifK_true, e3]
    rfl
  · rw [if_neg e]
    show boolK (flagB K) _ (fun _ => sliceC 1 id 0 0 K K K n K fun v => k v) = _
    rw [flagB_of hKM, boolK_false, sliceC_mid hKM (Nat.le_refl _) (by omega), Nat.zero_add, Nat.mul_one]
theorem slHi_row {id : B} {K n : Nat} {kd : IntKind} (hKM : K < 18446744073709551616) (hn : n ≤ K) (hK : 0 < K) (k : V → Bool) : slHiV 1 (.l id 0 0 K K (some K)) (.i kd (n : Int)) k = k (.l id 0 0 n K (some K)) := by
  have e1 : Nat.ble 0 n = true := by rw [Nat.ble_eq]; exact Nat.zero_le _
  unfold slHiV
  simp only [vL_l, vI_i, natK_cast, e1, ifK_true]
  show boolK (flagB K) _ (fun _ => sliceC 1 id 0 0 K K K 0 n fun v => k v) = _
  rw [flagB_of hKM, boolK_false, sliceC_mid hKM hn hK]
  simp only [Nat.zero_mul, Nat.add_zero, Nat.sub_zero]
end Go.Ev

set_option linter.all false
namespace Go.Ev
open Go
/-- frames -/
noncomputable def gpJunk (n m : Nat) (v : V) (t : F) : V := get n (put m v t)
theorem get_put' (n m : Nat) (v : V) (t : F) : get n (put m v t) = if n = m then v else if n < 512 ∧ m < 512 then get n t else gpJunk n m v t := by
  by_cases h : n < 512 ∧ m < 512
  · rw [get_put n m v t h.1 h.2, if_pos h]
  · rw [if_neg h]
    by_cases e : n = m
    · subst e
      rw [if_pos rfl]
      exact (Classical.choose_spec (sPut_ok (slOf n) v t)).2.1
    · rw [if_neg e]; rfl
section
variable {P : Program} {h : H} {N : Nx} {kd : IntKind} {a b : Int}
theorem h2_add : H2 P (gBin fAdd) (.i kd a) (.i kd b) h N = N.go P (.i kd (kd.wrap (a + b))) h := hv_of fun k => by show ifK (kdEq kd kd) _ = _; rw [kdEq_self, ifK_true, f_add]
theorem h2_sub : H2 P (gBin fSub) (.i kd a) (.i kd b) h N = N.go P (.i kd (kd.wrap (a - b))) h := hv_of fun k => by show ifK (kdEq kd kd) _ = _; rw [kdEq_self, ifK_true, f_sub]
theorem h2_mul : H2 P (gBin fMul) (.i kd a) (.i kd b) h N = N.go P (.i kd (kd.wrap (a * b))) h := hv_of fun k => by show ifK (kdEq kd kd) _ = _; rw [kdEq_self, ifK_true, f_mul]
theorem h2_lss : H2 P (gBin fLss) (.i kd a) (.i kd b) h N = N.go P (.b (decide (a < b))) h := hv_of fun k => by show ifK (kdEq kd kd) _ = _; rw [kdEq_self, ifK_true, f_lss]
theorem h2_gtr : H2 P (gBin fGtr) (.i kd a) (.i kd b) h N = N.go P (.b (decide (b < a))) h := hv_of fun k => by show ifK (kdEq kd kd) _ = _; rw [kdEq_self, ifK_true, f_gtr]
theorem h2_leq : H2 P (gBin fLeq) (.i kd a) (.i kd b) h N = N.go P (.b (decide (a ≤ b))) h := hv_of fun k => by show ifK (kdEq kd kd) _ = _; rw [kdEq_self, ifK_true, f_leq]
theorem h2_geq : H2 P (gBin fGeq) (.i kd a) (.i kd b) h N = N.go P (.b (decide (b ≤ a))) h := hv_of fun k => by show ifK (kdEq kd kd) _ = _; rw [kdEq_self, ifK_true, f_geq]
theorem h2_eql : H2 P (gBin fEql) (.i kd a) (.i kd b) h N = N.go P (.b (decide (a = b))) h := hv_of fun k => by show ifK (kdEq kd kd) _ = _; rw [kdEq_self, ifK_true, f_eql]
theorem h2_neq : H2 P (gBin fNeq) (.i kd a) (.i kd b) h N = N.go P (.b (!decide (a = b))) h := hv_of fun k => by show ifK (kdEq kd kd) _ = _; rw [kdEq_self, ifK_true, f_neq]
theorem h2_quo (ha : 0 ≤ a) (hb : 0 < b) : H2 P (gBin fQuo) (.i kd a) (.i kd b) h N = N.go P (.i kd (kd.wrap (a / b))) h := hv_of fun k => by
  show ifK (kdEq kd kd) _ = _
  rw [kdEq_self, ifK_true]
  have e : eqI b 0 = false := by rw [eqI_eq]; simp; omega
  unfold fQuo
  rw [e]
  show wrapF (Int.tdiv a b) kd (mxOf kd) k = _
  rw [wrapF_eq, Int.tdiv_eq_ediv_of_nonneg ha]
theorem h2_rem (ha : 0 ≤ a) (hb : 0 < b) : H2 P gRem (.i kd a) (.i kd b) h N = N.go P (.i kd (a % b)) h := hv_of fun k => by
  show ifK (kdEq kd kd) (fun _ => fRem kd a b k) = _
  rw [kdEq_self, ifK_true]
  have e : eqI b 0 = false := by rw [eqI_eq]; simp; omega
  unfold fRem
  rw [e]
  show forceI (Int.tmod a b) (fun n => k (.i kd n)) = _
  rw [forceI_eq, Int.tmod_eq_emod_of_nonneg ha]
theorem h2_and {m : Nat} (hm : mxOf kd = m) (ha : 0 ≤ a) (ha2 : a ≤ m) (hb : 0 ≤ b) (hb2 : b ≤ m) : H2 P (gBin fAnd) (.i kd a) (.i kd b) h N = N.go P (.i kd ((a.toNat &&& b.toNat : Nat) : Int)) h := hv_of fun k => by
  show ifK (kdEq kd kd) _ = _
  rw [kdEq_self, ifK_true]
  obtain ⟨x, rfl⟩ := Int.eq_ofNat_of_zero_le ha
  obtain ⟨y, rfl⟩ := Int.eq_ofNat_of_zero_le hb
  have e1 : Nat.ble x (mxOf kd) = true := by rw [Nat.ble_eq]; omega
  have e2 : Nat.ble y (mxOf kd) = true := by rw [Nat.ble_eq]; omega
  show natK (Int.ofNat x) (fun a => natK (Int.ofNat y) _) = _
  rw [natK_ofNat, natK_ofNat, e1, ifK_true, e2, ifK_true, fN_eq]; rfl
theorem h2_or {m : Nat} (hm : mxOf kd = m) (ha : 0 ≤ a) (ha2 : a ≤ m) (hb : 0 ≤ b) (hb2 : b ≤ m) : H2 P (gBin fOr) (.i kd a) (.i kd b) h N = N.go P (.i kd ((a.toNat ||| b.toNat : Nat) : Int)) h := hv_of fun k => by
  show ifK (kdEq kd kd) _ = _
  rw [kdEq_self, ifK_true]
  obtain ⟨x, rfl⟩ := Int.eq_ofNat_of_zero_le ha
  obtain ⟨y, rfl⟩ := Int.eq_ofNat_of_zero_le hb
  have e1 : Nat.ble x (mxOf kd) = true := by rw [Nat.ble_eq]; omega
  have e2 : Nat.ble y (mxOf kd) = true := by rw [Nat.ble_eq]; omega
  show natK (Int.ofNat x) (fun a => natK (Int.ofNat y) _) = _
  rw [natK_ofNat, natK_ofNat, e1, ifK_true, e2, ifK_true, fN_eq]; rfl
theorem h2_xor {m : Nat} (hm : mxOf kd = m) (ha : 0 ≤ a) (ha2 : a ≤ m) (hb : 0 ≤ b) (hb2 : b ≤ m) : H2 P (gBin fXor) (.i kd a) (.i kd b) h N = N.go P (.i kd ((a.toNat ^^^ b.toNat : Nat) : Int)) h := hv_of fun k => by
  show ifK (kdEq kd kd) _ = _
  rw [kdEq_self, ifK_true]
  obtain ⟨x, rfl⟩ := Int.eq_ofNat_of_zero_le ha
  obtain ⟨y, rfl⟩ := Int.eq_ofNat_of_zero_le hb
  have e1 : Nat.ble x (mxOf kd) = true := by rw [Nat.ble_eq]; omega
  have e2 : Nat.ble y (mxOf kd) = true := by rw [Nat.ble_eq]; omega
  show natK (Int.ofNat x) (fun a => natK (Int.ofNat y) _) = _
  rw [natK_ofNat, natK_ofNat, e1, ifK_true, e2, ifK_true, fN_eq]; rfl
theorem h2_ant {m : Nat} (hm : mxOf kd = m) (ha : 0 ≤ a) (ha2 : a ≤ m) (hb : 0 ≤ b) (hb2 : b ≤ m) : H2 P (gBin fAnt) (.i kd a) (.i kd b) h N = N.go P (.i kd ((a.toNat ^^^ (a.toNat &&& b.toNat) : Nat) : Int)) h := hv_of fun k => by
  show ifK (kdEq kd kd) _ = _
  rw [kdEq_self, ifK_true]
  obtain ⟨x, rfl⟩ := Int.eq_ofNat_of_zero_le ha
  obtain ⟨y, rfl⟩ := Int.eq_ofNat_of_zero_le hb
  have e1 : Nat.ble x (mxOf kd) = true := by rw [Nat.ble_eq]; omega
  have e2 : Nat.ble y (mxOf kd) = true := by rw [Nat.ble_eq]; omega
  show natK (Int.ofNat x) (fun a => natK (Int.ofNat y) _) = _
  rw [natK_ofNat, natK_ofNat, e1, ifK_true, e2, ifK_true, fN_eq]; rfl
theorem h2_shl {kd' : IntKind} (hb : 0 ≤ b) : H2 P (gShift shlF) (.i kd a) (.i kd' b) h N = N.go P (.i kd (kd.wrap (a * ((2 ^ (min b.toNat kd.bits) : Nat) : Int)))) h := hv_of fun k => by
  show natK b _ = _
  rw [natK_nn hb, f_shl]
theorem h2_shr {kd' : IntKind} (hb : 0 ≤ b) : H2 P (gShift shrF) (.i kd a) (.i kd' b) h N = N.go P (.i kd (a / ((2 ^ (min b.toNat kd.bits) : Nat) : Int))) h := hv_of fun k => by
  show natK b _ = _
  rw [natK_nn hb]
  show forceI (Int.fdiv a ((2 ^ _ : Nat) : Int)) (fun n => k (.i kd n)) = _
  rw [forceI_eq, Int.fdiv_eq_ediv_of_nonneg _ (Int.natCast_nonneg _)]
theorem h2_beq {x y : Bool} : H2 P (gBool false) (.b x) (.b y) h N = N.go P (.b (x == y)) h := hv_of fun k => by cases x <;> cases y <;> rfl
theorem h2_bne {x y : Bool} : H2 P (gBool true) (.b x) (.b y) h N = N.go P (.b (x != y)) h := hv_of fun k => by cases x <;> cases y <;> rfl
theorem h1_not {x : Bool} : H1 P gNot (.b x) h N = N.go P (.b (!x)) h := hv_of fun k => rfl
theorem h1_neg : H1 P gNeg (.i kd a) h N = N.go P (.i kd (kd.wrap (-a))) h := hv_of fun k => wrapF_eq _ _ _
theorem h1_conv {kd' : IntKind} : H1 P (gConv kd) (.i kd' a) h N = N.go P (.i kd (kd.wrap a)) h := hv_of fun k => rfl
theorem h1_ext0 {v : V} {vs : List V} : H1 P (gExt 0) (.tu (v :: vs)) h N = N.go P v h := hv_of fun k => rfl
theorem h1_ext1 {u v : V} {vs : List V} : H1 P (gExt 1) (.tu (u :: v :: vs)) h N = N.go P v h := hv_of fun k => rfl
theorem h1_ext2 {u w v : V} {vs : List V} : H1 P (gExt 2) (.tu (u :: w :: v :: vs)) h N = N.go P v h := hv_of fun k => rfl
theorem h1_ext3 {u w z v : V} {vs : List V} : H1 P (gExt 3) (.tu (u :: w :: z :: v :: vs)) h N = N.go P v h := hv_of fun k => rfl
theorem h2_min : H2 P gMin (.i kd a) (.i kd b) h N = N.go P (.i kd (min a b)) h := hv_of fun k => by show ifK (kdEq kd kd) _ = _; rw [kdEq_self, ifK_true]
theorem h2_max : H2 P gMax (.i kd a) (.i kd b) h N = N.go P (.i kd (max a b)) h := hv_of fun k => by show ifK (kdEq kd kd) _ = _; rw [kdEq_self, ifK_true]
theorem h3_pick {q : Bool} {x y : V} : H3 P gPick (.b q) x y h N = N.go P (cond q x y) h := hv_of fun k => rfl
def FDJ (P : Program) (d : Nat) (cs : List V) (h : H) (N : Nx) : Prop := H1 P (gField d) (.a cs) h N
theorem h1_field {d : Nat} {cs : List V} : H1 P (gField d) (.a cs) h N = if d < cs.length then N.go P (cs.getD d .u) h else FDJ P d cs h N := by
  split
  · rename_i hd
    exact hv_of fun k => by
      show optK (cs[d]?) k = _
      rw [show cs[d]? = some (cs.getD d .u) by simp [hd]]; rfl
  · rfl
theorem h1_fieldA {d size : Nat} {cs : List V} : H1 P (gFieldA d size) (.a cs) h N = N.go P (.a ((cs.drop d).take size)) h := hv_of fun k => rfl
theorem h1_fieldAddr {d : Nat} {id : B} {g off fin : Nat} : H1 P (gFieldAddr d) (.p id g off fin) h N = N.go P (.p id g (off + d) fin) h := hv_of fun k => rfl
theorem h1_nilCheck {id : B} {g off fin : Nat} : H1 P gNilCheck (.p id g off fin) h N = N.go P (.p id g off fin) h := hv_of fun k => rfl
/-- an element's place -/
def IX (P : Program) (size : Nat) (v : V) (i : Nat) (h : H) (N : Nx) : Prop := HV P (idxV size v i) h N
theorem h2_idx {size : Nat} {v : V} (ha : 0 ≤ a) : H2 P (gIndex size) v (.i kd a) h N = IX P size v a.toNat h N := by
  unfold H2 IX
  congr 1
  funext k
  show natK a _ = _
  rw [natK_nn ha]
theorem ix_l {size i : Nat} {id : B} {g off len fin : Nat} {cap : Option Nat} (hi : i < len) : IX P size (.l id g off len fin cap) i h N = N.go P (.p id g (off + i * size) fin) h := hv_of fun k => by
  show ifK (Nat.ble (i + 1) len) (fun _ => k (.p id g (off + i * size) fin)) = _
  have : Nat.ble (i + 1) len = true := by rw [Nat.ble_eq]; exact hi
  rw [this, ifK_true]
theorem h2_idxArr {len size : Nat} {id : B} {g off fin : Nat} (ha : 0 ≤ a) (hl : a < len) : H2 P (gIndexArr len size) (.p id g off fin) (.i kd a) h N = N.go P (.p id g (off + a.toNat * size) fin) h := hv_of fun k => by
  show natK a _ = _
  rw [natK_nn ha, arrIx (by omega)]
theorem gLen_l0 : H1 P gLen .l0 h N = N.go P (.i .i64 0) h := hv_of fun k => rfl
theorem gLen_l {id : B} {g off len fin : Nat} {cap : Option Nat} : H1 P gLen (.l id g off len fin cap) h N = N.go P (.i .i64 (len : Int)) h := hv_of fun k => rfl
theorem h1_lenS {l : List UInt8} : H1 P gLenS (sv l) h N = N.go P (.i .i64 (l.length : Int)) h := hv_of fun k => rfl
theorem h2_sindex {l : List UInt8} (ha : 0 ≤ a) (hl : a < l.length) : H2 P gSIndex (sv l) (.i kd a) h N = N.go P (.i .u8 ((l.getD a.toNat 0).toNat : Int)) h := hv_of fun k => by
  show natK a _ = _
  rw [natK_nn ha, sixV_sv (by omega)]
theorem h2_aindex {len size : Nat} {cs : List V} (ha : 0 ≤ a) (hl : a < len) (hc : a.toNat * size < cs.length) : H2 P (gAIndex len size) (.a cs) (.i kd a) h N = N.go P (cs.getD (a.toNat * size) .u) h := hv_of fun k => by
  show natK a _ = _
  have : Nat.ble (a.toNat + 1) len = true := by rw [Nat.ble_eq]; omega
  rw [natK_nn ha]
  show ifK (Nat.ble (a.toNat + 1) len) (fun _ => optK (cs[a.toNat * size]?) k) = _
  rw [this, ifK_true, show cs[a.toNat * size]? = some (cs.getD (a.toNat * size) .u) by simp [hc]]; rfl
theorem h2_cat {x y : List UInt8} (hl : x.length + y.length ≤ 1048576) : H2 P catV (sv x) (sv y) h N = N.go P (sv (x ++ y)) h := hv_of fun k => catV_sv hl k
theorem h2_seq {x y : List UInt8} : H2 P (scV eqS) (sv x) (sv y) h N = N.go P (.b (decide (x = y))) h := hv_of fun k => scV_eq x y k
theorem h2_sne {x y : List UInt8} : H2 P (scV fun a b c d => !eqS a b c d) (sv x) (sv y) h N = N.go P (.b (!decide (x = y))) h := hv_of fun k => scV_ne x y k
theorem h2_cmpS {x y : List UInt8} : H2 P cmV (sv x) (sv y) h N = N.go P (.i .i64 (cmpI (decide (x = y)) (Op.bytesLess x y))) h := hv_of fun k => cmV_sv x y k
theorem h2_minS {x y : List UInt8} : H2 P (gMMS fun a b c d => ltS a b c d || eqS a b c d) (sv x) (sv y) h N = N.go P (sv (bif Op.bytesLess x y || decide (x = y) then x else y)) h := hv_of fun k => by
  have e : (ltS x.length (pk x) y.length (pk y) || eqS x.length (pk x) y.length (pk y)) = (Op.bytesLess x y || decide (x = y)) := by rw [eqS_sv, bytesLess_pk]
  rw [← e]; unfold gMMS; rw [vS_sv, vS_sv]
  show boolK (ltS x.length (pk x) y.length (pk y) || eqS x.length (pk x) y.length (pk y)) _ _ = _
  generalize (ltS x.length (pk x) y.length (pk y) || eqS x.length (pk x) y.length (pk y)) = b
  cases b <;> rfl
theorem h2_maxS {x y : List UInt8} : H2 P (gMMS fun a b c d => !ltS a b c d) (sv x) (sv y) h N = N.go P (sv (bif Op.bytesLess x y then y else x)) h := hv_of fun k => by
  rw [bytesLess_pk]; unfold gMMS; rw [vS_sv, vS_sv]
  show boolK (!ltS x.length (pk x) y.length (pk y)) _ _ = _
  generalize ltS x.length (pk x) y.length (pk y) = b
  cases b <;> rfl
theorem h2_slt {x y : List UInt8} : H2 P (scV ltS) (sv x) (sv y) h N = N.go P (.b (Op.bytesLess x y)) h := hv_of fun k => scV_lt x y k
theorem h2_sge {x y : List UInt8} : H2 P (scV fun a b c d => !ltS a b c d) (sv x) (sv y) h N = N.go P (.b (!Op.bytesLess x y)) h := hv_of fun k => by
  unfold scV; rw [vS_sv, vS_sv, bytesLess_pk]
theorem h2_sle {x y : List UInt8} : H2 P (scV fun a b c d => ltS a b c d || eqS a b c d) (sv x) (sv y) h N = N.go P (.b (Op.bytesLess x y || decide (x = y))) h := hv_of fun k => by
  unfold scV; rw [vS_sv, vS_sv]; show k (.b (ltS x.length (pk x) y.length (pk y) || eqS x.length (pk x) y.length (pk y))) = _; rw [eqS_sv, bytesLess_pk]
theorem h2_sgt {x y : List UInt8} : H2 P (scV fun a b c d => !(ltS a b c d || eqS a b c d)) (sv x) (sv y) h N = N.go P (.b (!(Op.bytesLess x y || decide (x = y)))) h := hv_of fun k => by
  unfold scV; rw [vS_sv, vS_sv]; show k (.b (!(ltS x.length (pk x) y.length (pk y) || eqS x.length (pk x) y.length (pk y)))) = _; rw [eqS_sv, bytesLess_pk]
theorem h3_ss2 {l : List UInt8} {kd' : IntKind} (ha : 0 ≤ a) (hab : a ≤ b) (hb : b ≤ l.length) : H3 P gSS2 (sv l) (.i kd a) (.i kd' b) h N = N.go P (sv ((l.take b.toNat).drop a.toNat)) h := hv_of fun k => by
  show natK a (fun p => natK b fun q => ssV (sv l) p q k) = _
  rw [natK_nn ha, natK_nn (by omega), ssV_sv (by omega) (by omega)]
theorem h2_ss1 {l : List UInt8} (ha : 0 ≤ a) (hb : a ≤ l.length) : H2 P gSS1 (sv l) (.i kd a) h N = N.go P (sv (l.take a.toNat)) h := hv_of fun k => by
  show natK a (fun q => ssV (sv l) 0 q k) = _
  rw [natK_nn ha, ssV_sv (by omega) (by omega), List.drop_zero]
theorem h2_ssa {l : List UInt8} (ha : 0 ≤ a) (hb : a ≤ l.length) : H2 P gSSa (sv l) (.i kd a) h N = N.go P (sv (l.drop a.toNat)) h := hv_of fun k => by
  show natK a (fun p => ssaV (sv l) p k) = _
  rw [natK_nn ha, ssaV_sv (by omega)]
theorem h1_moveS {l : List UInt8} : H1 P gMoveS (sv l) h N = N.go P (sv l) h := hv_of fun k => rfl
theorem h2_nilL0 {ne : Bool} : H2 P (gNil vLN ne) .l0 .l0 h N = N.go P (.b (!ne)) h := hv_of fun k => by cases ne <;> rfl
theorem h2_nilL1 {ne : Bool} {id : B} {g off len fin : Nat} {cap : Option Nat} : H2 P (gNil vLN ne) (.l id g off len fin cap) .l0 h N = N.go P (.b ne) h := hv_of fun k => by cases ne <;> rfl
theorem h2_nilP0 {ne : Bool} : H2 P (gNil vPN ne) .p0 .p0 h N = N.go P (.b (!ne)) h := hv_of fun k => by cases ne <;> rfl
theorem h2_nilP1 {ne : Bool} {id : B} {g off fin : Nat} : H2 P (gNil vPN ne) (.p id g off fin) .p0 h N = N.go P (.b ne) h := hv_of fun k => by cases ne <;> rfl
end
noncomputable def gI2S (x : V) (k : V → Bool) : Bool := vI x fun _ n => natK n fun n => ifK (Nat.ble n 127) fun _ => k (.s 1 n)
theorem or_i2s {P : Program} {t : F} {h : H} {N : Nx} (x : O) : OR P (doI2S x) t h N = H1 P gI2S (oV x t) h N := or_hv fun cf k => by simp only [doI2S, oE_eq]; rfl
theorem sv_one {k : Nat} (h : k < 256) : V.s 1 k = sv [UInt8.ofNat k] := by
  unfold sv
  have : (UInt8.ofNat k).toNat = k := by simp; omega
  simp [pk, this]
theorem h1_i2s {P : Program} {h : H} {N : Nx} {kd : IntKind} {a : Int} (ha : 0 ≤ a) (hb : a ≤ 127) : H1 P gI2S (.i kd a) h N = N.go P (sv [UInt8.ofNat a.toNat]) h := hv_of fun k => by
  show natK a _ = _
  have e : Nat.ble a.toNat 127 = true := by rw [Nat.ble_eq]; omega
  rw [natK_nn ha, e, ifK_true, sv_one (by omega)]
def LD (P : Program) (v : V) (h : H) (N : Nx) : Prop := HV P (fun k => vP v fun id g off fin => load1 h id g off fin k) h N
def LA (P : Program) (size : Nat) (v : V) (h : H) (N : Nx) : Prop := HV P (fun k => vP v fun id g off fin => loadN h id g off fin size fun vs => k (.a vs)) h N
def L1 (P : Program) (id : B) (g off fin : Nat) (h : H) (N : Nx) : Prop := HV P (load1 h id g off fin) h N
def LN (P : Program) (id : B) (g off fin size : Nat) (h : H) (N : Nx) : Prop := HV P (fun k => loadN h id g off fin size fun vs => k (.a vs)) h N
def BS (P : Program) (v : V) (h : H) (N : Nx) : Prop := HV P (b2sV h v) h N
section
variable {P : Program} {t : F} {h : H} {N : Nx} {o x : O} {id : B} {g off fin size : Nat}
theorem or_load : OR P (doLoad o) t h N = LD P (oV o t) h N := or_hv fun cf k => ev_load ..
theorem or_loadA : OR P (doLoadA size o) t h N = LA P size (oV o t) h N := or_hv fun cf k => ev_loadA ..
theorem or_b2s : OR P (doB2S x) t h N = BS P (oV x t) h N := or_hv fun cf k => ev_b2s ..
theorem ld_p : LD P (.p id g off fin) h N = L1 P id g off fin h N := rfl
theorem la_p : LA P size (.p id g off fin) h N = LN P id g off fin size h N := rfl
theorem loadRe {h : H} (k : V → Bool) : load1 (reFloor h) id g off fin k = load1 h id g off fin k := by cases h; rfl
section
variable {n : Nat} {l : List CO} {K : F → H → Prop} {v : V}
theorem l1_re : L1 P id g off fin (reFloor h) (.u n l t h K) = L1 P id g off fin h (.d n l t K) := by
  unfold L1 HV
  simp only [loadRe, go_u, go_d, unFloor_re]
theorem ln_re : LN P id g off fin size (reFloor h) (.u n l t h K) = LN P id g off fin size h (.d n l t K) := by
  have e : ∀ k : List V → Bool, loadN (reFloor h) id g off fin size k = loadN h id g off fin size k := fun k => by cases h; rfl
  unfold LN HV
  simp only [e, go_u, go_d, unFloor_re]
theorem bs_re : BS P v (reFloor h) (.u n l t h K) = BS P v h (.d n l t K) := by
  have e : b2sV (reFloor h) v = b2sV h v := by cases h; rfl
  unfold BS HV
  simp only [e, go_u, go_d, unFloor_re]
end
theorem Row.l1 {xs : List V} (r : Row h id g 0 xs) (hi : off < xs.length) (hf : off < fin) : L1 P id g off fin h N = N.go P (xs.getD off .u) h := hv_of fun k =>
  load1_cell (by have := r.2 off (xs.getD off .u) (by simp [hi]); rwa [Nat.zero_add] at this) hf k
theorem Lst.ln {h0 : H} {v : V} {xs : List V} (a : Lst h0 v xs) : H1 P gLen v h N = N.go P (.i .i64 (xs.length : Int)) h := hv_of fun k => by unfold gLen; rw [a.len]
theorem Lst.ix {h0 : H} {v : V} {xs : List V} {i : Nat} (a : Lst h0 v xs) (hi : i < xs.length) : IX P 1 v i h N = N.go P (.p (lid v) (lg v) (loff v + i) (lfin v)) h := hv_of fun k => a.idx hi k
theorem Lst.ld {v : V} {xs : List V} {i : Nat} (a : Lst h v xs) (hi : i < xs.length) : L1 P (lid v) (lg v) (loff v + i) (lfin v) h N = N.go P (xs.getD i .u) h := hv_of fun k => load_lst a (by simp [hi]) k
theorem Il.ln {h0 : H} {v : V} {xs : List Int} (a : Il h0 v xs) : H1 P gLen v h N = N.go P (.i .i64 (xs.length : Int)) h := by rw [Lst.ln a, List.length_map]
theorem Il.ix {h0 : H} {v : V} {xs : List Int} {i : Nat} (a : Il h0 v xs) (hi : i < xs.length) : IX P 1 v i h N = N.go P (.p (lid v) (lg v) (loff v + i) (lfin v)) h := hv_of fun k => a.idx hi k
theorem Il.ld {v : V} {xs : List Int} {i : Nat} (a : Il h v xs) (hi : i < xs.length) : L1 P (lid v) (lg v) (loff v + i) (lfin v) h N = N.go P (.i .i64 (xs.getD i 0)) h := hv_of fun k => a.rd hi k
theorem Bl.ln {h0 : H} {v : V} {xs : List Bool} (a : Bl h0 v xs) : H1 P gLen v h N = N.go P (.i .i64 (xs.length : Int)) h := by rw [Lst.ln a, List.length_map]
theorem Bl.ix {h0 : H} {v : V} {xs : List Bool} {i : Nat} (a : Bl h0 v xs) (hi : i < xs.length) : IX P 1 v i h N = N.go P (.p (lid v) (lg v) (loff v + i) (lfin v)) h := hv_of fun k => a.idx hi k
theorem Bl.ld {v : V} {xs : List Bool} {i : Nat} (a : Bl h v xs) (hi : i < xs.length) : L1 P (lid v) (lg v) (loff v + i) (lfin v) h N = N.go P (.b (xs.getD i false)) h := hv_of fun k => a.rd hi k
/-- a slice of texts -/
def Tl (h : H) (v : V) (xs : List (List UInt8)) : Prop := Lst h v (xs.map sv)
theorem Tl.grow {h h' : H} {v : V} {xs : List (List UInt8)} (a : Tl h v xs) (s : Stay nowhere h h') : Tl h' v xs := Lst.grow a s
theorem Tl.ln {h0 : H} {v : V} {xs : List (List UInt8)} (a : Tl h0 v xs) : H1 P gLen v h N = N.go P (.i .i64 (xs.length : Int)) h := by rw [Lst.ln a, List.length_map]
theorem Tl.ix {h0 : H} {v : V} {xs : List (List UInt8)} {i : Nat} (a : Tl h0 v xs) (hi : i < xs.length) : IX P 1 v i h N = N.go P (.p (lid v) (lg v) (loff v + i) (lfin v)) h := Lst.ix a (by simpa using hi)
theorem Tl.ld {v : V} {xs : List (List UInt8)} {i : Nat} (a : Tl h v xs) (hi : i < xs.length) : L1 P (lid v) (lg v) (loff v + i) (lfin v) h N = N.go P (sv (xs.getD i [])) h := hv_of fun k => load_lst a (by simp [hi]) k
theorem Lst.bs {v : V} {l : List UInt8} (a : Lst h v (l.map bv)) (hne : l ≠ []) : BS P v h N = N.go P (sv l) h := hv_of fun k => b2s_lst a hne k
end
noncomputable def gSEq (ks : List KD) (ne : Bool) (x y : V) (k : V → Bool) : Bool := vA x fun xs => vA y fun ys => eqL ks xs ys fun r => k (.b (xor ne r))
section
variable {P : Program} {t : F} {h : H} {N : Nx} {ks : List KD} {ne : Bool} {kd : IntKind}
theorem or_sEq {x y : O} : OR P (doSEq ks ne x y) t h N = H2 P (gSEq ks ne) (oV x t) (oV y t) h N := or_hv fun cf k => by simp only [doSEq, oE_eq, fB_eq]; rfl
theorem eqL_s {a b : List UInt8} {xs ys : List V} {k : Bool → Bool} : eqL (.s :: ks) (sv a :: xs) (sv b :: ys) k = if a = b then eqL ks xs ys k else k false := by
  show boolK (eqS a.length (pk a) b.length (pk b)) (fun _ => (fun r => boolK r (fun _ => eqL ks xs ys k) (fun _ => k false)) true) (fun _ => (fun r => boolK r (fun _ => eqL ks xs ys k) (fun _ => k false)) false) = _
  rw [eqS_sv]
  by_cases e : a = b
  · rw [if_pos e, decide_eq_true e]; rfl
  · rw [if_neg e, decide_eq_false e]; rfl
theorem eqL_i {a b : Int} {xs ys : List V} {k : Bool → Bool} : eqL (.i :: ks) (.i kd a :: xs) (.i kd b :: ys) k = if a = b then eqL ks xs ys k else k false := by
  show ifK (kdEq kd kd) (fun _ => boolK (eqI a b) (fun _ => (fun r => boolK r (fun _ => eqL ks xs ys k) (fun _ => k false)) true) (fun _ => (fun r => boolK r (fun _ => eqL ks xs ys k) (fun _ => k false)) false)) = _
  rw [kdEq_self, ifK_true, eqI_eq]
  by_cases e : a = b
  · rw [if_pos e, show (a == b) = true by simpa using e]; rfl
  · rw [if_neg e, show (a == b) = false by simpa using e]; rfl
theorem eqL_b {a b : Bool} {xs ys : List V} {k : Bool → Bool} : eqL (.b :: ks) (.b a :: xs) (.b b :: ys) k = if a = b then eqL ks xs ys k else k false := by
  cases a <;> cases b <;> rfl
theorem eqL_n {xs ys : List V} {k : Bool → Bool} : eqL [] xs ys k = k true := rfl
/-- an entry -/
theorem h2_sE {a b v w : List UInt8} {n m : Int} {d e : Bool} : H2 P (gSEq [.s, .i, .b, .s] ne) (.a [sv a, .i kd n, .b d, sv v]) (.a [sv b, .i kd m, .b e, sv w]) h N = N.go P (.b (xor ne (decide (a = b ∧ n = m ∧ d = e ∧ v = w)))) h := hv_of fun k => by
  unfold gSEq; rw [vA_a, vA_a]
  rw [eqL_s, eqL_i, eqL_b, eqL_s, eqL_n]
  by_cases h1 : a = b <;> by_cases h2 : n = m <;> by_cases h3 : d = e <;> by_cases h4 : v = w <;> simp [h1, h2, h3, h4]
/-- a write -/
theorem h2_sW {a b v w : List UInt8} {d e : Bool} : H2 P (gSEq [.s, .b, .s] ne) (.a [sv a, .b d, sv v]) (.a [sv b, .b e, sv w]) h N = N.go P (.b (xor ne (decide (a = b ∧ d = e ∧ v = w)))) h := hv_of fun k => by
  unfold gSEq; rw [vA_a, vA_a]
  rw [eqL_s, eqL_b, eqL_s, eqL_n]
  by_cases h1 : a = b <;> by_cases h3 : d = e <;> by_cases h4 : v = w <;> simp [h1, h3, h4]
/-- a pair -/
theorem h2_sP {a b v w : List UInt8} : H2 P (gSEq [.s, .s] ne) (.a [sv a, sv v]) (.a [sv b, sv w]) h N = N.go P (.b (xor ne (decide (a = b ∧ v = w)))) h := hv_of fun k => by
  unfold gSEq; rw [vA_a, vA_a]
  rw [eqL_s, eqL_s, eqL_n]
  by_cases h1 : a = b <;> by_cases h4 : v = w <;> simp [h1, h4]
end
/-- what comes with another memory -/
def HM (P : Program) (g : (V → H → Bool) → Bool) (N : Nx) : Prop := ∃ v h', (∀ k, g k = k v h') ∧ N.go P v h'
theorem or_hm {P : Program} {r : Run} {t : F} {h : H} {N : Nx} {g : (V → H → Bool) → Bool} (e : ∀ cf k, r cf t h k = g k) : OR P r t h N = HM P g N :=
  propext ⟨fun ⟨v, h', ⟨cf, _, c2⟩, k⟩ => ⟨v, h', fun k => (e cf k).symm.trans (c2 k), k⟩, fun ⟨v, h', c, k⟩ => ⟨v, h', ⟨_, cfSome P, fun k => (e _ k).trans (c k)⟩, k⟩⟩
theorem hm_of {P : Program} {g : (V → H → Bool) → Bool} {N : Nx} {v : V} {h' : H} (e : ∀ k, g k = k v h') (k : N.go P v h') : HM P g N := ⟨v, h', e, k⟩
/-- a new block of these cells; 'mk' of its name is what comes -/
def AL (P : Program) (el : Nat) (cs : List V) (mk : B → V) (h : H) (N : Nx) : Prop := HM P (fun k => alloc el cs h fun id h' => k (mk id) h') N
theorem AL.own {P : Program} {el : Nat} {cs : List V} {mk : B → V} {h : H} {N : Nx} (hl : cs.length < 2 ^ 37) (hf : B.val h.floor ≤ B.val h.next)
    (k : ∀ h', Stay nowhere h h' → B.val h'.next = B.val h.next + 1 → Own h' h.next cs → N.go P (mk h.next) h') : AL P el cs mk h N := by
  obtain ⟨h', a1, a2, a3, a4⟩ := alloc_own el cs h hl hf
  exact hm_of (fun k => a1 _) (k h' a2 a4 a3)
theorem AL.ownE {P : Program} {el : Nat} {cs : List V} {mk : B → V} {h : H} {N : Nx} (hl : cs.length < 2 ^ 37) (hf : B.val h.floor ≤ B.val h.next)
    (k : ∀ h', Stay nowhere h h' → B.val h'.next = B.val h.next + 1 → OwnE h' h.next el cs → N.go P (mk h.next) h') : AL P el cs mk h N := by
  obtain ⟨h', a1, a2, a3, blk, b1, b2, b3, b4, b5, b6, b7⟩ := alloc_new el cs h (by omega)
  exact hm_of (fun k => a1 _) (k h' a2 a3 ⟨blk, b1, b3, b2, b6, b5, by rw [a2.floor]; exact hf, by omega, b7⟩)
/-- a list of cells, filled: then 'f' of them -/
def FL (P : Program) (ps : List Pt) (t : F) (cs : List V) (el : Option (Nat × Nat)) (h : H) (N : Nx) : Prop := match el with
  | none => HM P (fun k => fillL ps t cs fun ds => k (.a ds) h) N
  | some (el, len) => HM P (fun k => fillL ps t cs fun ds => alloc el ds h fun id h' => k (.l id 0 0 len ds.length (some len)) h') N
def FP (P : Program) (off size : Nat) (v : V) (ps : List Pt) (t : F) (cs : List V) (el : Option (Nat × Nat)) (h : H) (N : Nx) : Prop := match el with
  | none => HM P (fun k => fillP off size (fillL ps) t cs (fun ds => k (.a ds) h) v) N
  | some (el, len) => HM P (fun k => fillP off size (fillL ps) t cs (fun ds => alloc el ds h fun id h' => k (.l id 0 0 len ds.length (some len)) h') v) N
/-- a block of one value -/
def BX (P : Program) (el : Nat) (v : V) (h : H) (N : Nx) : Prop := HM P (fun k => ifK (knownV v) fun _ => alloc el (cells v) h fun id h => k (.p id 0 0 (cells v).length) h) N
def ST (P : Program) (size : Nat) (p x : V) (h : H) (N : Nx) : Prop := HM P (fun k => vP p fun id g off fin => ifK (Nat.beq (cells x).length size) fun _ => store h id g off fin (cells x) fun h => k (.tu []) h) N
def MS (P : Program) (el : Nat) (z : List V) (l c : V) (h : H) (N : Nx) : Prop := HM P (fun k => vI l fun _ l => natK l fun l => vI c fun _ c => natK c fun c => ifK (Nat.ble l c) fun _ => ifK (Nat.ble c 1048576) fun _ => alloc el (repL z c) h fun id h => k (.l id 0 0 l (Nat.mul c z.length) (some c)) h) N
def AP (P : Program) (el size : Nat) (s x : V) (h : H) (N : Nx) : Prop := HM P (fun k => newCells size x h fun n vs => append2 el size s n vs h k) N
def AS (P : Program) (el : Nat) (s x : V) (h : H) (N : Nx) : Prop := HM P (fun k => newCellsS x fun n vs => append2 el 1 s n vs h k) N
def CP (P : Program) (size : Nat) (x y : V) (h : H) (N : Nx) : Prop := HM P (fun k => vL x (fun _ => copy0 y (k (.i .i64 (.ofNat 0)) h)) fun id g off len fin _ => copyTo size y h k id g off len fin) N
def SB (P : Program) (el : Nat) (x : V) (h : H) (N : Nx) : Prop := HM P (fun k => vS x fun l n => ifK (Nat.ble l 1048576) fun _ => unpK l n [] fun vs => alloc el vs h fun id h => markK h id fun h => k (.l id 0 0 l l (capF l)) h) N
section
variable {P : Program} {t : F} {h : H} {N : Nx} {o x y l c s : O} {el len size : Nat} {z : List V} {ps : List Pt}
theorem or_alloc : OR P (doAlloc el z) t h N = AL P el z (fun id => .p id 0 0 z.length) h N := or_hm fun cf k => rfl
theorem or_box : OR P (doBox el o) t h N = BX P el (oV o t) h N := or_hm fun cf k => by simp only [doBox, oK_eq]
theorem or_buildSlice : OR P (doBuildSlice el len z ps) t h N = FL P ps t z (some (el, len)) h N := or_hm fun cf k => rfl
theorem or_build : OR P (doBuild z ps) t h N = FL P ps t z none h N := or_hm fun cf k => rfl
theorem or_store : OR P (doStore size o x) t h N = ST P size (oV o t) (oV x t) h N := or_hm fun cf k => by simp only [doStore, oE_eq, oK_eq]
theorem or_makeSlice : OR P (doMakeSlice el z l c) t h N = MS P el z (oV l t) (oV c t) h N := or_hm fun cf k => by
  have no : ∀ u : V, (vI u fun _ n => natK n fun _ => false) = false := no1
  simp only [doMakeSlice, oE_eq]
theorem or_append : OR P (doAppend el size s x) t h N = AP P el size (oV s t) (oV x t) h N := or_hm fun cf k => by simp only [doAppend, oK_eq]
theorem or_appendS : OR P (doAppendS el s x) t h N = AS P el (oV s t) (oV x t) h N := or_hm fun cf k => by simp only [doAppendS, oK_eq]
/-- the whole of a text, copied into bytes -/
def CPS (P : Program) (x y : V) (h : H) (N : Nx) : Prop := HM P (fun k => vL x (fun _ => false) fun id g off len fin _ => natC len (fun _ => false) fun _ => copyToS y h k id g off len fin) N
theorem or_copyS {P : Program} {x y : O} {t : F} {h : H} {N : Nx} : OR P (doCopyS x y) t h N = CPS P (oV x t) (oV y t) h N := or_hm fun cf k => by simp only [doCopyS, oK_eq]
theorem or_copy : OR P (doCopy size x y) t h N = CP P size (oV x t) (oV y t) h N := or_hm fun cf k => by simp only [doCopy, oK_eq]
theorem or_s2b : OR P (doS2B el x) t h N = SB P el (oV x t) h N := or_hm fun cf k => by simp only [doS2B, oE_eq]
theorem fl_n : FL P [] t z none h N = N.go P (.a z) h := propext ⟨fun ⟨v, h', e, k⟩ => by obtain ⟨rfl, rfl⟩ := vh_of e; exact k, fun k => ⟨_, _, fun _ => rfl, k⟩⟩
theorem fl_s : FL P [] t z (some (el, len)) h N = AL P el z (fun id => .l id 0 0 len z.length (some len)) h N := rfl
theorem fl_c {e : Option (Nat × Nat)} {off size : Nat} : FL P (Pt.mk off size o :: ps) t z e h N = FP P off size (oV o t) ps t z e h N := by
  have e0 : ∀ k, fillL (⟨off, size, o⟩ :: ps) t z k = fillP off size (fillL ps) t z k (oV o t) := fun k => by show oK o t _ = _; rw [oK_eq]; rfl
  unfold FL FP
  simp only [e0]
theorem fp_of {e : Option (Nat × Nat)} {off size : Nat} {v : V} {cs : List V} (hk : knownV v = true) (hc : cells v = cs) (hs : cs.length = size) (hb : off + size ≤ z.length) : FP P off size v ps t z e h N = FL P ps t (z.take off ++ (cs ++ z.drop (off + size))) e h N := by
  have e0 : ∀ k, fillP off size (fillL ps) t z k v = fillL ps t (z.take off ++ (cs ++ z.drop (off + size))) k := fun k => by
    have h1 : Nat.beq (cells v).length size = true := by rw [hc, hs]; exact Nat.beq_refl _
    have h2 : Nat.ble (Nat.add off size) z.length = true := by rw [Nat.ble_eq]; exact hb
    unfold fillP
    rw [hk, ifK_true, h1, ifK_true, h2, ifK_true, hc]
    unfold putAt
    rw [app_eq, app_eq, hs]
  unfold FP FL
  simp only [e0]
section
variable {e : Option (Nat × Nat)} {off : Nat}
def FPJ (P : Program) (off size : Nat) (v : V) (ps : List Pt) (t : F) (cs : List V) (el : Option (Nat × Nat)) (h : H) (N : Nx) : Prop := FP P off size v ps t cs el h N
theorem fp_at {size : Nat} {v : V} {cs : List V} (hk : knownV v = true) (hc : cells v = cs) (hs : cs.length = size) : FP P off size v ps t z e h N = if off + size ≤ z.length then FL P ps t (z.take off ++ (cs ++ z.drop (off + size))) e h N else FPJ P off size v ps t z e h N := by
  split
  · rename_i hb; exact fp_of hk hc hs hb
  · rfl
theorem fp_i {kd : IntKind} {a : Int} : FP P off 1 (.i kd a) ps t z e h N = if off + 1 ≤ z.length then FL P ps t (z.take off ++ (.i kd a :: z.drop (off + 1))) e h N else FPJ P off 1 (.i kd a) ps t z e h N := fp_at (cs := [.i kd a]) rfl rfl rfl
theorem fp_b {q : Bool} : FP P off 1 (.b q) ps t z e h N = if off + 1 ≤ z.length then FL P ps t (z.take off ++ (.b q :: z.drop (off + 1))) e h N else FPJ P off 1 (.b q) ps t z e h N := fp_at (cs := [.b q]) rfl rfl rfl
theorem fp_sv {s : List UInt8} : FP P off 1 (sv s) ps t z e h N = if off + 1 ≤ z.length then FL P ps t (z.take off ++ (sv s :: z.drop (off + 1))) e h N else FPJ P off 1 (sv s) ps t z e h N := fp_at (cs := [sv s]) rfl rfl rfl
theorem fp_p {id : B} {g o fin : Nat} : FP P off 1 (.p id g o fin) ps t z e h N = if off + 1 ≤ z.length then FL P ps t (z.take off ++ (.p id g o fin :: z.drop (off + 1))) e h N else FPJ P off 1 (.p id g o fin) ps t z e h N := fp_at (cs := [.p id g o fin]) rfl rfl rfl
theorem fp_l {id : B} {g o len fin : Nat} {cap : Option Nat} : FP P off 1 (.l id g o len fin cap) ps t z e h N = if off + 1 ≤ z.length then FL P ps t (z.take off ++ (.l id g o len fin cap :: z.drop (off + 1))) e h N else FPJ P off 1 (.l id g o len fin cap) ps t z e h N := fp_at (cs := [.l id g o len fin cap]) rfl rfl rfl
theorem fp_l0 : FP P off 1 .l0 ps t z e h N = if off + 1 ≤ z.length then FL P ps t (z.take off ++ (.l0 :: z.drop (off + 1))) e h N else FPJ P off 1 .l0 ps t z e h N := fp_at (cs := [.l0]) rfl rfl rfl
theorem fp_a {size : Nat} {cs : List V} : FP P off size (.a cs) ps t z e h N = if cs.length = size ∧ off + size ≤ z.length then FL P ps t (z.take off ++ (cs ++ z.drop (off + size))) e h N else FPJ P off size (.a cs) ps t z e h N := by
  split
  · rename_i hb; exact fp_of rfl rfl hb.1 hb.2
  · rfl
end
theorem bx_i {kd : IntKind} {a : Int} : BX P el (.i kd a) h N = AL P el [.i kd a] (fun id => .p id 0 0 1) h N := rfl
theorem bx_b {q : Bool} : BX P el (.b q) h N = AL P el [.b q] (fun id => .p id 0 0 1) h N := rfl
theorem bx_sv {s : List UInt8} : BX P el (sv s) h N = AL P el [sv s] (fun id => .p id 0 0 1) h N := rfl
theorem bx_a {cs : List V} : BX P el (.a cs) h N = AL P el cs (fun id => .p id 0 0 cs.length) h N := rfl
theorem bx_p {id : B} {g o fin : Nat} : BX P el (.p id g o fin) h N = AL P el [.p id g o fin] (fun id => .p id 0 0 1) h N := rfl
theorem bx_l {id : B} {g o len fin : Nat} {cap : Option Nat} : BX P el (.l id g o len fin cap) h N = AL P el [.l id g o len fin cap] (fun id => .p id 0 0 1) h N := rfl
theorem bx_l0 : BX P el .l0 h N = AL P el [.l0] (fun id => .p id 0 0 1) h N := rfl
theorem ms_i {kd kd' : IntKind} {a b : Int} (h1 : 0 ≤ a) (h2 : a ≤ b) (h3 : b ≤ 1048576) : MS P el z (.i kd a) (.i kd' b) h N = AL P el (repL z b.toNat) (fun id => .l id 0 0 a.toNat (b.toNat * z.length) (some b.toNat)) h N := by
  have e1 : Nat.ble a.toNat b.toNat = true := by rw [Nat.ble_eq]; omega
  have e2 : Nat.ble b.toNat 1048576 = true := by rw [Nat.ble_eq]; omega
  have e : ∀ k : V → H → Bool, (vI (.i kd a) fun _ l => natK l fun l => vI (.i kd' b) fun _ c => natK c fun c => ifK (Nat.ble l c) fun _ => ifK (Nat.ble c 1048576) fun _ => alloc el (repL z c) h fun id h => k (.l id 0 0 l (Nat.mul c z.length) (some c)) h) =
      alloc el (repL z b.toNat) h fun id h => k (.l id 0 0 a.toNat (b.toNat * z.length) (some b.toNat)) h := fun k => by
    simp only [vI_i, natK_nn h1, natK_nn (Int.le_trans h1 h2), e1, e2, ifK_true]; rfl
  unfold MS AL
  simp only [e]
end
section
variable {P : Program} {h : H} {N : Nx} {id : B} {xs : List V} {j fin : Nat} {x y : V}
/-- at one place written -/
theorem ST.own (o : Own h id xs) (hc : cells x = [y]) (h1 : oneV y = true) (hj : j < fin) (hfit : j < 2 ^ 37) (k : ∀ h', Own h' id (xs.set j y) → Stay (fun i => i = id) h h' → N.go P (.tu []) h') : ST P 1 (.p id 0 j fin) x h N := by
  obtain ⟨h', a1, a2, a3⟩ := store_own o hj hfit h1
  refine hm_of (v := .tu []) (h' := h') (fun k => ?_) (k h' a2 a3)
  show ifK (Nat.beq (cells x).length 1) (fun _ => store h id 0 j fin (cells x) fun h => k (.tu []) h) = _
  rw [hc]
  show store h id 0 j fin [y] (fun h => k (.tu []) h) = _
  rw [a1]
theorem ST.buf {el : Nat} {v : V} (b : Buf h el 1 v xs) (tp : Top h v) (hc : cells x = [y]) (h1 : oneV y = true) (hj : j < xs.length) (hfit : j < 2 ^ 37) (k : ∀ h', Buf h' el 1 v (xs.set j y) → Top h' v → Stay (isOf v) h h' → N.go P (.tu []) h') : ST P 1 (.p (lid v) (lg v) (loff v + j) (lfin v)) x h N := by
  obtain ⟨h', a1, a2, a3, a4⟩ := store_buf b tp hj hfit h1
  refine hm_of (v := .tu []) (h' := h') (fun k => ?_) (k h' a2 a3 a4)
  show ifK (Nat.beq (cells x).length 1) (fun _ => store h _ _ _ _ (cells x) fun h => k (.tu []) h) = _
  rw [hc]
  show store h _ _ _ _ [y] (fun h => k (.tu []) h) = _
  rw [a1]
end
section
variable {P : Program} {t : F} {h : H} {K : F → H → Prop} {l : List CO} {N : Nx} {el n m lo : Nat} {s : O} {v y : V} {xs : List V} {id : B}
theorem AP.buf {size cnt : Nat} {x : V} {vs : List V} (b : Buf h el size v xs) (hx : ∀ k : Nat → List V → Bool, newCells size x h k = k cnt vs) (hf : B.val h.floor ≤ B.val h.next) (hsz : 1 ≤ size) (hn : vs.length = cnt * size) (h1 : allOne vs = true) (hb : xs.length + vs.length ≤ 1048576)
    (k : ∀ v' h', Buf h' el size v' (xs ++ vs) → Stay (isOf v) h h' → (∀ i, isOf v' i → isOf v i ∨ B.val h.next ≤ B.val i) → Top h' v' → N.go P v' h') : AP P el size v x h N := by
  obtain ⟨v', h', a1, a2, a3, a4, a5⟩ := append_top b hf hsz hn h1 hb
  exact hm_of (v := v') (h' := h') (fun k => by rw [hx, a1]) (k v' h' a2 a3 a4 a5)
theorem new_row {size : Nat} {fin cnt : Nat} {cap : Option Nat} {vs : List V} (r : Row h id 0 0 vs) (hn : vs.length = cnt * size) (hc : 1 ≤ cnt) (hs : 1 ≤ size) (hfin : vs.length ≤ fin) (k : Nat → List V → Bool) : newCells size (.l id 0 0 cnt fin cap) h k = k cnt vs := by
  obtain ⟨c, rfl⟩ : ∃ c, cnt = c + 1 := ⟨cnt - 1, by omega⟩
  have hne : vs ≠ [] := by
    intro e; subst e
    have := Nat.mul_le_mul hc hs
    simp at hn; omega
  show loadN h id 0 0 fin (Nat.mul (c + 1) size) (fun vs => k (c + 1) vs) = _
  rw [show Nat.mul (c + 1) size = vs.length by rw [hn]; rfl, loadN_row r rfl hne (by omega)]
/-- append(v, y): its literal, and it -/
theorem AL.push {b : Bool} (a : Vb h lo el v xs) (e3 : ∀ u, oV s (put m u t) = v) (hc : cells y = [y]) (h1 : oneV y = true) (hf : B.val h.floor ≤ B.val h.next) (hlo : lo ≤ B.val h.next) (hl : xs.length + 1 ≤ 1048576)
    (k : ∀ v' h' u, Vb h' lo el v' (xs ++ [y]) → Stay (isOf v) h h' → (∀ i, isOf v' i → isOf v i ∨ B.val h.next ≤ B.val i) → Top h' v' → WO P l (put n v' (put m u t)) h' K) :
    AL P el [y] (fun id => .l id 0 0 1 [y].length (some 1)) h (.w m (.mk .none (.some (slOf n)) b (.mk (doAppend el 1 s (.t (slOf m)))) :: l) t K) := by
  refine AL.own (by show 1 < 2 ^ 37; decide) hf fun h1' s1 n1 o1 => ?_
  rw [go_w, wo_c, or_append, e3, oV_t, get_put', if_pos rfl]
  refine AP.buf (vs := [y]) (cnt := 1) (a.buf.grow s1) (new_row o1.row rfl (Nat.le_refl _) (Nat.le_refl _) (Nat.le_refl _)) (s1.fl hf) (Nat.le_refl _) rfl (by show Bool.rec false true (oneV y) = true; rw [h1]) (by show xs.length + 1 ≤ _; exact hl) fun v' h' b1 s2 hv tp => ?_
  refine k v' h' _ ⟨b1, fun i hi => ?_⟩ ⟨s2.floor.trans s1.floor, Nat.le_trans s1.next s2.next, fun id' h1' h2 => (s2.get id' (Nat.lt_of_lt_of_le h1' s1.next) h2).trans (s1.get id' h1' fun h => h)⟩ (fun i hi => ?_) tp
  · rcases hv i hi with h2 | h2
    · exact a.own i h2
    · have := s1.next; omega
  · rcases hv i hi with h2 | h2
    · exact .inl h2
    · exact .inr (Nat.le_trans s1.next h2)
/-- string([]byte{..}) -/
theorem AL.str {b : Bool} {cs : List V} {bs : List UInt8} {len fin : Nat} {cap : Option Nat} (hc : cs = bs.map bv) (hne : bs ≠ []) (e1 : len = bs.length) (e2 : fin = bs.length) (hl : bs.length ≤ 1048576) (hf : B.val h.floor ≤ B.val h.next)
    (k : ∀ h' u, Stay nowhere h h' → WO P l (put n (sv bs) (put m u t)) h' K) : AL P el cs (fun id => .l id 0 0 len fin cap) h (.w m (.mk .none (.some (slOf n)) b (.mk (doB2S (.t (slOf m)))) :: l) t K) := by
  subst hc; subst e1; subst e2
  refine AL.own (by rw [List.length_map]; omega) hf fun h1' s1 n1 o1 => ?_
  have hL := o1.lst cap
  rw [List.length_map] at hL
  rw [go_w, wo_c, or_b2s, oV_t, get_put', if_pos rfl, hL.bs hne]
  exact k _ _ s1
/-- []byte(text) -/
theorem SB.mk {c : List UInt8} (hf : B.val h.floor ≤ B.val h.next) (hl : c.length ≤ 1048576)
    (k : ∀ h', Stay nowhere h h' → B.val h'.next = B.val h.next + 1 → Lst h' (.l h.next 0 0 c.length c.length (capF c.length)) (c.map bv) → N.go P (.l h.next 0 0 c.length c.length (capF c.length)) h') : SB P el (sv c) h N := by
  obtain ⟨h', a1, a2, a3, a4, a5, a6⟩ := s2b_new el hf hl
  have := fun k => a1 (.c (sv c)) F.zero (fun _ _ _ _ => false) k rfl
  refine hm_of (v := .l h.next 0 0 c.length c.length (capF c.length)) (h' := h') (fun k => ?_) (k h' a2 a3 a5)
  have e := this k
  simp only [doS2B, oE_eq] at e
  exact e
end
section
variable {P : Program} {t : F} {h : H} {N : Nx} {x a : O} {id : B} {n K size : Nat} {kd : IntKind} {z : Int}
theorem or_slLo : OR P (doSlice size x (some a) none) t h N = H2 P (slLoV size) (oV x t) (oV a t) h N := or_hv fun cf k => ev_slLo ..
theorem or_slHi : OR P (doSlice size x none (some a)) t h N = H2 P (slHiV size) (oV x t) (oV a t) h N := or_hv fun cf k => ev_slHi ..
noncomputable def slBoV (size : Nat) (v w z : V) (k : V → Bool) : Bool := vL v (fun _ => vI w fun _ n => natK n fun a => vI z fun _ m => natK m fun b => ifK (Nat.beq a 0) fun _ => ifK (Nat.beq b 0) fun _ => k .l0) fun id g off len fin cap => vI w fun _ n => natK n fun a => vI z fun _ m => natK m fun b => ifK (Nat.ble a b) fun _ =>
  Option.rec (fun id g off len fin a b k => sliceN size id g off len fin a b fun v => k v) (fun c id g off len fin a b k => boolK (flagB c) (fun _ => ifK (Nat.beq b 0) fun _ => k (.l id g off 0 off (some c))) (fun _ => sliceC size id g off len fin c a b fun v => k v)) cap id g off len fin a b k
theorem ev_slBo {cf : CallF} {k : V → H → Bool} (size : Nat) (b : O) : doSlice size x (some a) (some b) cf t h k = slBoV size (oV x t) (oV a t) (oV b t) fun v => k v h := by
  unfold slBoV
  simp only [doSlice, oE_eq, boundK]
  congr 1
  funext id g off len fin cap
  congr 1; funext _ n; congr 1; funext a; congr 1; funext _ m; congr 1; funext b; congr 1; funext _
  cases cap with
  | none => rfl
  | some c =>
    show boolK (flagB c) _ _ = boolK (flagB c) _ _
    cases flagB c <;> rfl
theorem or_slBo (b : O) : OR P (doSlice size x (some a) (some b)) t h N = H3 P (slBoV size) (oV x t) (oV a t) (oV b t) h N := or_hv fun cf k => ev_slBo ..
theorem h2_sliceArr {g off fin : Nat} (hK : n < 18446744073709551616) (h0 : 0 ≤ z) (hn : z < n) : H2 P (gSliceArr n size) (.p id g off fin) (.i kd z) h N = N.go P (.l id g (off + z.toNat * size) (n - z.toNat) fin (some (n - z.toNat))) h := hv_of fun k => by
  show natK z (fun p => ifK (Nat.ble p n) fun _ => sliceC size id g off n fin n p n k) = _
  rw [natK_nn h0, ifBle (by omega), sliceC_mid hK (Nat.le_refl _) (by omega)]
theorem h2_slLo (hKM : K < 18446744073709551616) (h0 : 0 ≤ z) (hn : z ≤ K) : H2 P (slLoV 1) (.l id 0 0 K K (some K)) (.i kd z) h N = N.go P (tailV id K z.toNat) h := hv_of fun k => by
  obtain ⟨n, rfl⟩ := Int.eq_ofNat_of_zero_le h0
  exact slLo_row hKM (by omega) k
theorem h2_slHi (hKM : K < 18446744073709551616) (h0 : 0 ≤ z) (hn : z ≤ K) (hK : 0 < K) : H2 P (slHiV 1) (.l id 0 0 K K (some K)) (.i kd z) h N = N.go P (.l id 0 0 z.toNat K (some K)) h := hv_of fun k => by
  obtain ⟨n, rfl⟩ := Int.eq_ofNat_of_zero_le h0
  exact slHi_row hKM (by omega) hK k
end
def CL (P : Program) (f : FuncId) (vs : List V) (h : H) (N : Nx) : Prop := ∃ Q, FnOk P f vs h Q ∧ ∀ v h', Q v h' → N.go P v h'
theorem CL.mk {P : Program} {f : FuncId} {vs : List V} {h : H} {N : Nx} {Q : V → H → Prop} (a : FnOk P f vs h Q) (k : ∀ v h', Q v h' → N.go P v h') : CL P f vs h N := ⟨Q, a, k⟩
/-- .. that leaves memory alone -/
theorem CL.pure {P : Program} {f : FuncId} {vs : List V} {h : H} {N : Nx} {e : V} (a : FnOk P f vs h fun y h' => y = e ∧ h' = h) (k : N.go P e h) : CL P f vs h N := ⟨_, a, fun v h' hq => by rw [hq.1, hq.2]; exact k⟩
/-- .. that makes blocks of its own alone -/
theorem CL.stay {P : Program} {f : FuncId} {vs : List V} {h : H} {N : Nx} {e : V} (a : FnOk P f vs h fun y h' => y = e ∧ Stay nowhere h h') (k : ∀ h', Stay nowhere h h' → N.go P e h') : CL P f vs h N := ⟨_, a, fun v h' hq => by rw [hq.1]; exact k h' hq.2⟩
theorem or_call {P : Program} {t : F} {h : H} {N : Nx} {f : FuncId} {args : List O} : OR P (doCall f args) t h N = CL P f (args.map fun o => oV o t) h N := by
  apply propext; constructor
  · rintro ⟨v, h', ⟨cf, c1, c2⟩, k⟩
    have c3 : ∀ k, cf f (args.map fun o => oV o t) h k = k v h' := fun k => by rw [← c2 k]; show _ = evalsK args t (fun vs => cf f vs h k); rw [evalsK_eq]
    obtain ⟨v', h'', e, r1, r2, r3⟩ := c1 f _ h (fun _ _ => true) (c3 _)
    obtain ⟨rfl, rfl⟩ := vh_of fun k => (c3 k).symm.trans (e k)
    refine ⟨fun v h => v = v' ∧ h = h'', ⟨v', h'', ⟨r1, r2, r3⟩, rfl, rfl⟩, ?_⟩
    rintro _ _ ⟨rfl, rfl⟩
    exact k
  · rintro ⟨Q, a, k⟩
    obtain ⟨v, h', c1, c2⟩ := cfS_call (S := fun _ _ _ v h' => Q v h') a
    exact ⟨v, h', ⟨_, cfS_ok P _, fun k => by show evalsK args t _ = _; rw [evalsK_eq, c1]⟩, k v h' c2⟩
theorem or_mkF {P : Program} {t : F} {h : H} {N : Nx} {f : FuncId} {cap : List O} : OR P (doMkF f cap) t h N = N.go P (.f f (cap.map fun o => oV o t)) h := (or_hv (g := fun k => k (.f f (cap.map fun o => oV o t))) fun cf k => by show evalsK cap t _ = _; rw [evalsK_eq]).trans (hv_of fun _ => rfl)
/-- a call of a function value -/
def CLF (P : Program) (x : V) (vs : List V) (h : H) (N : Nx) : Prop := ∃ f cs, x = .f f cs ∧ CL P f (vs ++ cs) h N
theorem clf_eq {P : Program} {f : FuncId} {cs vs : List V} {h : H} {N : Nx} : CLF P (.f f cs) vs h N = CL P f (vs ++ cs) h N := propext ⟨fun ⟨_, _, e, a⟩ => by cases e; exact a, fun a => ⟨_, _, rfl, a⟩⟩
theorem or_callV {P : Program} {t : F} {h : H} {N : Nx} {x : O} {args : List O} : OR P (doCallV x args) t h N = CLF P (oV x t) (args.map fun o => oV o t) h N := by
  have key : ∀ f cs, oV x t = .f f cs → OR P (doCallV x args) t h N = CL P f ((args.map fun o => oV o t) ++ cs) h N := fun f cs hx => by
    have e : ∀ cf k, doCallV x args cf t h k = cf f ((args.map fun o => oV o t) ++ cs) h k := fun cf k => by show oE x t _ = _; rw [oE_eq]; show evalsK args t _ = _; rw [evalsK_eq, hx, vF_f, app_eqV]
    apply propext; constructor
    · rintro ⟨v, h', ⟨cf, c1, c2⟩, k⟩
      have c3 : ∀ k, cf f ((args.map fun o => oV o t) ++ cs) h k = k v h' := fun k => (e cf k).symm.trans (c2 k)
      obtain ⟨v', h'', e, r1, r2, r3⟩ := c1 f _ h (fun _ _ => true) (c3 _)
      obtain ⟨rfl, rfl⟩ := vh_of fun k => (c3 k).symm.trans (e k)
      refine ⟨fun v h => v = v' ∧ h = h'', ⟨v', h'', ⟨r1, r2, r3⟩, rfl, rfl⟩, ?_⟩
      rintro _ _ ⟨rfl, rfl⟩
      exact k
    · rintro ⟨Q, a, k⟩
      obtain ⟨v, h', c1, c2⟩ := cfS_call (S := fun _ _ _ v h' => Q v h') a
      exact ⟨v, h', ⟨_, cfS_ok P _, fun k => (e _ k).trans (c1 k)⟩, k v h' c2⟩
  apply propext; constructor
  · intro a
    have a' := a
    obtain ⟨v, h', ⟨cf, c1, c2⟩, k⟩ := a'
    have := c2 fun _ _ => true
    have h2 : (oE x t fun y => evalsK args t fun vs => vF y fun f cs => cf f (app vs cs) h fun _ _ => true) = true := this
    rw [oE_eq] at h2
    have h2 : (evalsK args t fun vs => vF (oV x t) fun f cs => cf f (app vs cs) h fun _ _ => true) = true := h2
    rw [evalsK_eq] at h2
    obtain ⟨f, cs, hx, _⟩ := vF_ok h2
    exact ⟨f, cs, hx, by rw [← key f cs hx]; exact a⟩
  · rintro ⟨f, cs, hx, a⟩
    rw [key f cs hx]; exact a
def CD (v : V) (A B : Prop) : Prop := ∃ q, v = .b q ∧ (q = true → A) ∧ (q = false → B)
theorem Ok.cd {P : Program} {nt : Nat} {o : O} {a b : CC} {t : F} {h : H} {K : X → F → H → Prop} (c : CD (oV o t) (Ok P nt a t h K) (Ok P nt b t h K)) : Ok P nt (.cond o a b) t h K := by
  obtain ⟨q, hq, ha, hb⟩ := c
  exact Ok.cond hq ha hb
theorem cd_t {A B : Prop} : CD (.b true) A B = A := propext ⟨fun ⟨q, hq, ha, _⟩ => by cases hq; exact ha rfl, fun a => ⟨true, rfl, fun _ => a, fun h => by cases h⟩⟩
theorem cd_f {A B : Prop} : CD (.b false) A B = B := propext ⟨fun ⟨q, hq, _, hb⟩ => by cases hq; exact hb rfl, fun b => ⟨false, rfl, fun h => (by cases h), fun _ => b⟩⟩
theorem cd_split {q : Bool} {A B : Prop} (a : q = true → A) (b : q = false → B) : CD (.b q) A B := ⟨q, rfl, a, b⟩
/-- behind the first part: b, then K -/
def Sq (P : Program) (nt : Nat) (b : CC) (K : X → F → H → Prop) : X → F → H → Prop
  | .normal, t, h => Ok P nt b t h K
  | x, t, h => K x t h
/-- the next round -/
def LpG (Inv : Nat → F → H → Prop) (m : Nat) (t : F) (h : H) : Prop := ∃ m', m' < m ∧ Inv m' t h
def LpK (Inv : Nat → F → H → Prop) (m : Nat) (K : X → F → H → Prop) : X → F → H → Prop
  | .normal, t, h => LpG Inv m t h
  | x, t, h => K x t h
section
variable {P : Program} {nt : Nat} {a b : CC} {t : F} {h : H} {K : X → F → H → Prop} {Inv : Nat → F → H → Prop} {m j id : Nat}
theorem Ok.sq (k : Ok P nt a t h (Sq P nt b K)) : Ok P nt (.seq a b) t h K := Ok.seq (k.mono fun x t h => by cases x <;> exact fun h => h)
theorem sq_n : Sq P nt b K .normal t h = Ok P nt b t h K := rfl
theorem sq_e : Sq P nt b K (.exit j) t h = K (.exit j) t h := rfl
theorem sq_r : Sq P nt b K .ret t h = K .ret t h := rfl
theorem lp_n : LpK Inv m K .normal t h = LpG Inv m t h := rfl
theorem lp_e : LpK Inv m K (.exit j) t h = K (.exit j) t h := rfl
theorem lp_r : LpK Inv m K .ret t h = K .ret t h := rfl
def IsI (I Inv : Nat → F → H → Prop) : Prop := I = Inv
/-- a loop: the invariant, with a measure that falls -/
theorem Ok.lp (Inv : Nat → F → H → Prop) (m : Nat) (i : Inv m t h) (round : ∀ I : Nat → F → H → Prop, IsI I Inv → ∀ m t h, Inv m t h → Ok P nt a t h (LpK I m K)) : Ok P nt (.loop a) t h K :=
  Ok.loop Inv (fun m t h hi => (round Inv rfl m t h hi).mono fun x t h => by cases x <;> exact fun h => h) m t h i
theorem lp_next {I : Nat → F → H → Prop} (e : IsI I Inv) (m' : Nat) (hm : m' < m) (k : Inv m' t h) : LpG I m t h := by have e' : I = Inv := e; subst e'; exact ⟨m', hm, k⟩
end
def FnK (rs : List Rs) (Q : V → H → Prop) : X → F → H → Prop := fun x t' h' => match x with
  | .exit _ => False
  | _ => ∃ us, (∀ k : List V → Bool, resK rs t' h' k = k us) ∧ Q (one us) h'
theorem fn_go {P : Program} {f : FuncId} {nt : Nat} {cc : CC} {rs : List Rs} {vs : List V} {h : H} {Q : V → H → Prop} (hc : compFn P f = ⟨nt, cc, rs⟩) (hbad : cc ≠ .bad) (hl1 : vs.length ≤ nt) (hl2 : vs.length ≤ 512)
    (ok : ∀ Q', Q' = Q → Ok P nt cc (slotsF vs 0 F.zero) h (FnK rs Q')) : FnOk P f vs h Q := fn_run hc hbad hl1 hl2 (ok Q rfl)
section
variable {Q : V → H → Prop} {t : F} {h : H} {n m p q : Nat}
theorem fnk_of {rs : List Rs} {us : List V} (e : ∀ k : List V → Bool, resK rs t h k = k us) : FnK rs Q .ret t h = Q (one us) h :=
  propext ⟨fun ⟨vs, e', k⟩ => by have := l_of fun k => (e k).symm.trans (e' k); subst this; exact k, fun k => ⟨us, e, k⟩⟩
theorem fnk_n {rs : List Rs} : FnK rs Q .normal t h = FnK rs Q .ret t h := rfl
theorem fnk_0 : FnK [] Q .ret t h = Q (.tu []) h := fnk_of (us := []) fun k => rfl
theorem fnk_1 : FnK [Rs.tmp (slOf n)] Q .ret t h = Q (get n t) h := fnk_of (us := [_]) fun k => res_1 ..
theorem fnk_2 : FnK [Rs.tmp (slOf n), Rs.tmp (slOf m)] Q .ret t h = Q (.tu [get n t, get m t]) h := fnk_of (us := [_, _]) fun k => res_2 ..
theorem fnk_3 : FnK [Rs.tmp (slOf n), Rs.tmp (slOf m), Rs.tmp (slOf p)] Q .ret t h = Q (.tu [get n t, get m t, get p t]) h := fnk_of (us := [_, _, _]) fun k => res_3 ..
theorem fnk_4 : FnK [Rs.tmp (slOf n), Rs.tmp (slOf m), Rs.tmp (slOf p), Rs.tmp (slOf q)] Q .ret t h = Q (.tu [get n t, get m t, get p t, get q t]) h := fnk_of (us := [_, _, _, _]) fun k => by
  show forceV (sGet (slOf n) t) (fun v => forceV (sGet (slOf m) t) fun u => forceV (sGet (slOf p) t) fun w => forceV (sGet (slOf q) t) fun z => k [v, u, w, z]) = _
  rw [forceV_eq, forceV_eq, forceV_eq, forceV_eq]; rfl
end
/-- results, the first out of a box -/
def RA (Q : V → H → Prop) (size : Nat) (v : V) (us : List V) (h : H) : Prop := ∃ vs, (∀ k : List V → Bool, (vP v fun id g off fin => loadN h id g off fin size k) = k vs) ∧ Q (one (.a vs :: us)) h
section
variable {Q : V → H → Prop} {t : F} {h : H} {n m p q size : Nat}
theorem ra_of {rs : List Rs} {us : List V} (e : ∀ (k : List V → Bool), (rsK (Rs.cellA (slOf n) size) t h fun w => resK rs t h fun vs => k (w :: vs)) = vP (get n t) fun id g off fin => loadN h id g off fin size fun vs => k (.a vs :: us)) : FnK (Rs.cellA (slOf n) size :: rs) Q .ret t h = RA Q size (get n t) us h := by
  refine propext ⟨fun ⟨ws, e', k⟩ => ?_, fun ⟨vs, e', k⟩ => ⟨.a vs :: us, fun k => ?_, k⟩⟩
  · have e2 := fun k => (e k).symm.trans (e' k)
    have e3 := e2 (fun zs => true)
    obtain ⟨id, g, off, fin, hp⟩ : ∃ id g off fin, get n t = .p id g off fin := by
      revert e3
      cases get n t <;> intro e3 <;> first | exact ⟨_, _, _, _, rfl⟩ | exact Bool.noConfusion e3
    rw [hp] at e2 ⊢
    have e4 : ∀ k : List V → Bool, loadN h id g off fin size (fun vs => k (.a vs :: us)) = k ws := e2
    obtain ⟨vs, hv, _⟩ := loadN_ok (h := h) (id := id) (g := g) (off := off) (fin := fin) (n := size) (k := fun _ => true) (e4 fun _ => true)
    have : ws = .a vs :: us := l_of fun k => by rw [← e4 k, hv]
    subst this
    exact ⟨vs, hv, k⟩
  · have := e' fun vs => k (.a vs :: us)
    rw [← this]; exact e k
theorem fnk_A0 : FnK [Rs.cellA (slOf n) size] Q .ret t h = RA Q size (get n t) [] h := ra_of fun k => rfl
theorem fnk_A1 : FnK [Rs.cellA (slOf n) size, Rs.tmp (slOf m)] Q .ret t h = RA Q size (get n t) [get m t] h := ra_of fun k => by
  show (vP (get n t) fun id g off fin => loadN h id g off fin size fun vs => forceV (get m t) fun v => k [.a vs, v]) = _
  simp only [forceV_eq]
theorem fnk_A2 : FnK [Rs.cellA (slOf n) size, Rs.tmp (slOf m), Rs.tmp (slOf p)] Q .ret t h = RA Q size (get n t) [get m t, get p t] h := ra_of fun k => by
  show (vP (get n t) fun id g off fin => loadN h id g off fin size fun vs => forceV (get m t) fun v => forceV (get p t) fun u => k [.a vs, v, u]) = _
  simp only [forceV_eq]
theorem Own.ra {id : B} {xs us : List V} {fin : Nat} (o : Own h id xs) (hs : xs.length = size) (h1 : 1 ≤ size) (hf : size ≤ fin) : RA Q size (.p id 0 0 fin) us h = Q (one (.a xs :: us)) h := by
  have e : ∀ k : List V → Bool, loadN h id 0 0 fin size k = k xs := fun k => loadN_row o.row hs (by intro e; subst e; simp at hs; omega) (by omega) k
  refine propext ⟨fun ⟨vs, e', k⟩ => ?_, fun k => ⟨xs, e, k⟩⟩
  have : vs = xs := l_of fun k => (e k).symm.trans (e' k)
  subst this; exact k
end
theorem one_0 : one [] = .tu [] := rfl
theorem wrap_u8 {n : Int} (h1 : 0 ≤ n) (h2 : n ≤ 255) : IntKind.u8.wrap n = n := by
  simp only [IntKind.wrap, IntKind.bits, IntKind.signed]; simp; omega
theorem wrap_u16 {n : Int} (h1 : 0 ≤ n) (h2 : n ≤ 65535) : IntKind.u16.wrap n = n := by
  simp only [IntKind.wrap, IntKind.bits, IntKind.signed]; simp; omega
theorem wrap_u32 {n : Int} (h1 : 0 ≤ n) (h2 : n ≤ 4294967295) : IntKind.u32.wrap n = n := by
  simp only [IntKind.wrap, IntKind.bits, IntKind.signed]; simp; omega
theorem wrap_u64 {n : Int} (h1 : 0 ≤ n) (h2 : n ≤ 18446744073709551615) : IntKind.u64.wrap n = n := by
  simp only [IntKind.wrap, IntKind.bits, IntKind.signed]; simp; omega
theorem wrap_i32 {n : Int} (h1 : -2147483648 ≤ n) (h2 : n ≤ 2147483647) : IntKind.i32.wrap n = n := by
  simp only [IntKind.wrap, IntKind.bits, IntKind.signed]; simp; omega
theorem wrap_u8m {n : Int} : IntKind.u8.wrap n = n % 256 := by
  simp only [IntKind.wrap, IntKind.bits, IntKind.signed]; simp
theorem wrap_i64c (c : UInt8) : IntKind.i64.wrap (c.toNat : Int) = (c.toNat : Int) := wrap_i64 (by omega) (by have := c.toNat_lt; omega)
theorem wrap_u8c (c : UInt8) : IntKind.u8.wrap (c.toNat : Int) = (c.toNat : Int) := wrap_u8 (by omega) (by have := c.toNat_lt; omega)
theorem wrap_u16c (c : UInt8) : IntKind.u16.wrap (c.toNat : Int) = (c.toNat : Int) := wrap_u16 (by omega) (by have := c.toNat_lt; omega)
theorem wrap_u32c (c : UInt8) : IntKind.u32.wrap (c.toNat : Int) = (c.toNat : Int) := wrap_u32 (by omega) (by have := c.toNat_lt; omega)
theorem wrap_u64c (c : UInt8) : IntKind.u64.wrap (c.toNat : Int) = (c.toNat : Int) := wrap_u64 (by omega) (by have := c.toNat_lt; omega)
theorem bits_i64 : IntKind.bits .i64 = 64 := rfl
theorem bits_u64 : IntKind.bits .u64 = 64 := rfl
theorem bits_u32 : IntKind.bits .u32 = 32 := rfl
theorem bits_u16 : IntKind.bits .u16 = 16 := rfl
theorem bits_u8 : IntKind.bits .u8 = 8 := rfl
theorem bits_i32 : IntKind.bits .i32 = 32 := rfl
end Go.Ev

set_option linter.all false
set_option maxRecDepth 10000
namespace Go.Ev
open Go
section
variable {P : Program} {h : H} {N : Nx} {a b : Int}
theorem h2_and_i64 (ha : 0 ≤ a) (ha2 : a ≤ 9223372036854775807) (hb : 0 ≤ b) (hb2 : b ≤ 9223372036854775807) : H2 P (gBin fAnd) (.i .i64 a) (.i .i64 b) h N = N.go P (.i .i64 ((a.toNat &&& b.toNat : Nat) : Int)) h := h2_and (m := 9223372036854775807) rfl ha ha2 hb hb2
theorem h2_and_u8 (ha : 0 ≤ a) (ha2 : a ≤ 255) (hb : 0 ≤ b) (hb2 : b ≤ 255) : H2 P (gBin fAnd) (.i .u8 a) (.i .u8 b) h N = N.go P (.i .u8 ((a.toNat &&& b.toNat : Nat) : Int)) h := h2_and (m := 255) rfl ha ha2 hb hb2
theorem h2_and_u16 (ha : 0 ≤ a) (ha2 : a ≤ 65535) (hb : 0 ≤ b) (hb2 : b ≤ 65535) : H2 P (gBin fAnd) (.i .u16 a) (.i .u16 b) h N = N.go P (.i .u16 ((a.toNat &&& b.toNat : Nat) : Int)) h := h2_and (m := 65535) rfl ha ha2 hb hb2
theorem h2_and_u32 (ha : 0 ≤ a) (ha2 : a ≤ 4294967295) (hb : 0 ≤ b) (hb2 : b ≤ 4294967295) : H2 P (gBin fAnd) (.i .u32 a) (.i .u32 b) h N = N.go P (.i .u32 ((a.toNat &&& b.toNat : Nat) : Int)) h := h2_and (m := 4294967295) rfl ha ha2 hb hb2
theorem h2_and_u64 (ha : 0 ≤ a) (ha2 : a ≤ 18446744073709551615) (hb : 0 ≤ b) (hb2 : b ≤ 18446744073709551615) : H2 P (gBin fAnd) (.i .u64 a) (.i .u64 b) h N = N.go P (.i .u64 ((a.toNat &&& b.toNat : Nat) : Int)) h := h2_and (m := 18446744073709551615) rfl ha ha2 hb hb2
theorem h2_or_i64 (ha : 0 ≤ a) (ha2 : a ≤ 9223372036854775807) (hb : 0 ≤ b) (hb2 : b ≤ 9223372036854775807) : H2 P (gBin fOr) (.i .i64 a) (.i .i64 b) h N = N.go P (.i .i64 ((a.toNat ||| b.toNat : Nat) : Int)) h := h2_or (m := 9223372036854775807) rfl ha ha2 hb hb2
theorem h2_or_u8 (ha : 0 ≤ a) (ha2 : a ≤ 255) (hb : 0 ≤ b) (hb2 : b ≤ 255) : H2 P (gBin fOr) (.i .u8 a) (.i .u8 b) h N = N.go P (.i .u8 ((a.toNat ||| b.toNat : Nat) : Int)) h := h2_or (m := 255) rfl ha ha2 hb hb2
theorem h2_or_u16 (ha : 0 ≤ a) (ha2 : a ≤ 65535) (hb : 0 ≤ b) (hb2 : b ≤ 65535) : H2 P (gBin fOr) (.i .u16 a) (.i .u16 b) h N = N.go P (.i .u16 ((a.toNat ||| b.toNat : Nat) : Int)) h := h2_or (m := 65535) rfl ha ha2 hb hb2
theorem h2_or_u32 (ha : 0 ≤ a) (ha2 : a ≤ 4294967295) (hb : 0 ≤ b) (hb2 : b ≤ 4294967295) : H2 P (gBin fOr) (.i .u32 a) (.i .u32 b) h N = N.go P (.i .u32 ((a.toNat ||| b.toNat : Nat) : Int)) h := h2_or (m := 4294967295) rfl ha ha2 hb hb2
theorem h2_or_u64 (ha : 0 ≤ a) (ha2 : a ≤ 18446744073709551615) (hb : 0 ≤ b) (hb2 : b ≤ 18446744073709551615) : H2 P (gBin fOr) (.i .u64 a) (.i .u64 b) h N = N.go P (.i .u64 ((a.toNat ||| b.toNat : Nat) : Int)) h := h2_or (m := 18446744073709551615) rfl ha ha2 hb hb2
theorem h2_xor_i64 (ha : 0 ≤ a) (ha2 : a ≤ 9223372036854775807) (hb : 0 ≤ b) (hb2 : b ≤ 9223372036854775807) : H2 P (gBin fXor) (.i .i64 a) (.i .i64 b) h N = N.go P (.i .i64 ((a.toNat ^^^ b.toNat : Nat) : Int)) h := h2_xor (m := 9223372036854775807) rfl ha ha2 hb hb2
theorem h2_xor_u8 (ha : 0 ≤ a) (ha2 : a ≤ 255) (hb : 0 ≤ b) (hb2 : b ≤ 255) : H2 P (gBin fXor) (.i .u8 a) (.i .u8 b) h N = N.go P (.i .u8 ((a.toNat ^^^ b.toNat : Nat) : Int)) h := h2_xor (m := 255) rfl ha ha2 hb hb2
theorem h2_xor_u16 (ha : 0 ≤ a) (ha2 : a ≤ 65535) (hb : 0 ≤ b) (hb2 : b ≤ 65535) : H2 P (gBin fXor) (.i .u16 a) (.i .u16 b) h N = N.go P (.i .u16 ((a.toNat ^^^ b.toNat : Nat) : Int)) h := h2_xor (m := 65535) rfl ha ha2 hb hb2
theorem h2_xor_u32 (ha : 0 ≤ a) (ha2 : a ≤ 4294967295) (hb : 0 ≤ b) (hb2 : b ≤ 4294967295) : H2 P (gBin fXor) (.i .u32 a) (.i .u32 b) h N = N.go P (.i .u32 ((a.toNat ^^^ b.toNat : Nat) : Int)) h := h2_xor (m := 4294967295) rfl ha ha2 hb hb2
theorem h2_xor_u64 (ha : 0 ≤ a) (ha2 : a ≤ 18446744073709551615) (hb : 0 ≤ b) (hb2 : b ≤ 18446744073709551615) : H2 P (gBin fXor) (.i .u64 a) (.i .u64 b) h N = N.go P (.i .u64 ((a.toNat ^^^ b.toNat : Nat) : Int)) h := h2_xor (m := 18446744073709551615) rfl ha ha2 hb hb2
theorem h2_ant_i64 (ha : 0 ≤ a) (ha2 : a ≤ 9223372036854775807) (hb : 0 ≤ b) (hb2 : b ≤ 9223372036854775807) : H2 P (gBin fAnt) (.i .i64 a) (.i .i64 b) h N = N.go P (.i .i64 ((a.toNat ^^^ (a.toNat &&& b.toNat) : Nat) : Int)) h := h2_ant (m := 9223372036854775807) rfl ha ha2 hb hb2
theorem h2_ant_u8 (ha : 0 ≤ a) (ha2 : a ≤ 255) (hb : 0 ≤ b) (hb2 : b ≤ 255) : H2 P (gBin fAnt) (.i .u8 a) (.i .u8 b) h N = N.go P (.i .u8 ((a.toNat ^^^ (a.toNat &&& b.toNat) : Nat) : Int)) h := h2_ant (m := 255) rfl ha ha2 hb hb2
theorem h2_ant_u16 (ha : 0 ≤ a) (ha2 : a ≤ 65535) (hb : 0 ≤ b) (hb2 : b ≤ 65535) : H2 P (gBin fAnt) (.i .u16 a) (.i .u16 b) h N = N.go P (.i .u16 ((a.toNat ^^^ (a.toNat &&& b.toNat) : Nat) : Int)) h := h2_ant (m := 65535) rfl ha ha2 hb hb2
theorem h2_ant_u32 (ha : 0 ≤ a) (ha2 : a ≤ 4294967295) (hb : 0 ≤ b) (hb2 : b ≤ 4294967295) : H2 P (gBin fAnt) (.i .u32 a) (.i .u32 b) h N = N.go P (.i .u32 ((a.toNat ^^^ (a.toNat &&& b.toNat) : Nat) : Int)) h := h2_ant (m := 4294967295) rfl ha ha2 hb hb2
theorem h2_ant_u64 (ha : 0 ≤ a) (ha2 : a ≤ 18446744073709551615) (hb : 0 ≤ b) (hb2 : b ≤ 18446744073709551615) : H2 P (gBin fAnt) (.i .u64 a) (.i .u64 b) h N = N.go P (.i .u64 ((a.toNat ^^^ (a.toNat &&& b.toNat) : Nat) : Int)) h := h2_ant (m := 18446744073709551615) rfl ha ha2 hb hb2
end
theorem cond_tV (x y : V) : cond true x y = x := rfl
theorem cond_fV (x y : V) : cond false x y = y := rfl
theorem map_cV (f : O → V) (o : O) (os : List O) : List.map f (o :: os) = f o :: List.map f os := rfl
theorem map_nV (f : O → V) : List.map f [] = [] := rfl
theorem len_cV (a : V) (l : List V) : (a :: l).length = l.length + 1 := rfl
theorem len_nV : ([] : List V).length = 0 := rfl
theorem take_0V (l : List V) : l.take 0 = [] := rfl
theorem take_sV (n : Nat) (a : V) (l : List V) : (a :: l).take (n + 1) = a :: l.take n := rfl
theorem drop_0V (l : List V) : l.drop 0 = l := rfl
theorem drop_sV (n : Nat) (a : V) (l : List V) : (a :: l).drop (n + 1) = l.drop n := rfl
theorem app_nV (l : List V) : [] ++ l = l := rfl
theorem app_cV (a : V) (l m : List V) : (a :: l) ++ m = a :: (l ++ m) := rfl
theorem getD_0V (a : V) (l : List V) (d : V) : (a :: l).getD 0 d = a := rfl
theorem getD_sV (n : Nat) (a : V) (l : List V) (d : V) : (a :: l).getD (n + 1) d = l.getD n d := by simp [List.getD]
theorem set_0V (a b : V) (l : List V) : (a :: l).set 0 b = b :: l := rfl
theorem set_sV (n : Nat) (a b : V) (l : List V) : (a :: l).set (n + 1) b = a :: l.set n b := rfl
theorem beq_bb (b : Bool) : (b == b) = true := by cases b <;> rfl
theorem bne_bb (b : Bool) : (b != b) = false := by cases b <;> rfl
def wlk := And.intro @wB_eq (And.intro @uB_eq (And.intro @wG_eq (And.intro @uG_eq (And.intro @oN_eq (And.intro @wo_nil (And.intro @do_nil (And.intro @wo_c (And.intro @wo_0 (And.intro @wo_g (And.intro @wo_g0 (And.intro @do_c (And.intro @do_0 (And.intro @do_g (And.intro @do_u (And.intro @do_u0 (And.intro @do_gu (And.intro @go_w (And.intro @go_w0 (And.intro @go_d (And.intro @go_d0 (And.intro @go_u (And.intro @go_u0 (And.intro @gd_tt (And.intro @gd_ff (And.intro @gd_tf (And.intro @gd_ft (And.intro @gd_tu (And.intro @unFloor_re (And.intro @or_move (And.intro @or_pick (And.intro @or_bin (And.intro @or_shift (And.intro @or_rem (And.intro @or_bool (And.intro @or_not (And.intro @or_neg (And.intro @or_conv (And.intro @or_ext (And.intro @or_lenS (And.intro @or_len (And.intro @or_min (And.intro @or_max (And.intro @or_mms (And.intro @or_field (And.intro @or_fieldA (And.intro @or_fieldAddr (And.intro @or_nilCheck (And.intro @or_idx (And.intro @or_idxArr (And.intro @or_sindex (And.intro @or_aindex (And.intro @or_concat (And.intro @or_scmp (And.intro @or_cmpS (And.intro @or_ss2 (And.intro @or_ss1 (And.intro @or_ssa (And.intro @or_moveS (And.intro @or_nil (And.intro @or_sliceArr (And.intro @or_load (And.intro @or_loadA (And.intro @or_b2s (And.intro @or_build (And.intro @or_call (And.intro @or_mkF (And.intro @or_callV (And.intro @clf_eq (And.intro @or_alloc (And.intro @or_box (And.intro @or_buildSlice (And.intro @or_store (And.intro @or_makeSlice (And.intro @or_append (And.intro @or_appendS (And.intro @or_copy (And.intro @or_copyS (And.intro @or_s2b (And.intro @or_slLo (And.intro @or_slHi (And.intro @or_slBo (And.intro @or_i2s (And.intro @or_sEq (And.intro @h2_add (And.intro @h2_sub (And.intro @h2_mul (And.intro @h2_lss (And.intro @h2_gtr (And.intro @h2_leq (And.intro @h2_geq (And.intro @h2_eql (And.intro @h2_neq (And.intro @h2_quo (And.intro @h2_rem (And.intro @h2_shl (And.intro @h2_shr (And.intro @h2_beq (And.intro @h2_bne (And.intro @h1_not (And.intro @h1_neg (And.intro @h1_conv (And.intro @h1_ext0 (And.intro @h1_ext1 (And.intro @h1_ext2 (And.intro @h1_ext3 (And.intro @h2_min (And.intro @h2_max (And.intro @h2_minS (And.intro @h2_maxS (And.intro @h3_pick (And.intro @h1_field (And.intro @h1_fieldA (And.intro @h1_fieldAddr (And.intro @h1_nilCheck (And.intro @h2_idx (And.intro @ix_l (And.intro @h2_idxArr (And.intro @gLen_l0 (And.intro @gLen_l (And.intro @h1_lenS (And.intro @h2_sindex (And.intro @h2_aindex (And.intro @h2_cat (And.intro @h2_seq (And.intro @h2_cmpS (And.intro @h2_sne (And.intro @h2_slt (And.intro @h2_sge (And.intro @h2_sle (And.intro @h2_sgt (And.intro @h3_ss2 (And.intro @h2_ss1 (And.intro @h2_ssa (And.intro @h1_moveS (And.intro @h2_nilL0 (And.intro @h2_nilL1 (And.intro @h2_nilP0 (And.intro @h2_nilP1 (And.intro @ld_p (And.intro @la_p (And.intro @l1_re (And.intro @ln_re (And.intro @bs_re (And.intro @fl_n (And.intro @fl_s (And.intro @fl_c (And.intro @fp_i (And.intro @fp_b (And.intro @fp_sv (And.intro @fp_p (And.intro @fp_l (And.intro @fp_l0 (And.intro @fp_a (And.intro @bx_i (And.intro @bx_b (And.intro @bx_sv (And.intro @bx_a (And.intro @bx_p (And.intro @bx_l (And.intro @bx_l0 (And.intro @ms_i (And.intro @h2_slLo (And.intro @h2_slHi (And.intro @h2_sliceArr (And.intro @h1_i2s (And.intro @h2_sE (And.intro @h2_sW (And.intro @h2_sP (And.intro @h2_and_i64 (And.intro @h2_and_u8 (And.intro @h2_and_u16 (And.intro @h2_and_u32 (And.intro @h2_and_u64 (And.intro @h2_or_i64 (And.intro @h2_or_u8 (And.intro @h2_or_u16 (And.intro @h2_or_u32 (And.intro @h2_or_u64 (And.intro @h2_xor_i64 (And.intro @h2_xor_u8 (And.intro @h2_xor_u16 (And.intro @h2_xor_u32 (And.intro @h2_xor_u64 (And.intro @h2_ant_i64 (And.intro @h2_ant_u8 (And.intro @h2_ant_u16 (And.intro @h2_ant_u32 (And.intro @h2_ant_u64 (And.intro @cd_t (And.intro @cd_f (And.intro @fnk_n (And.intro @fnk_0 (And.intro @fnk_1 (And.intro @fnk_2 (And.intro @fnk_3 (And.intro @fnk_4 (And.intro @fnk_A0 (And.intro @fnk_A1 (And.intro @fnk_A2 (And.intro @one_0 (And.intro @one_1 (And.intro @one_2 (And.intro @one_3 (And.intro @sq_n (And.intro @sq_e (And.intro @sq_r (And.intro @lp_n (And.intro @lp_e (And.intro @lp_r (And.intro @Out_n (And.intro @Out_e (And.intro @Out_r (And.intro @oV_t (And.intro @oV_c (And.intro @wrap_i64c (And.intro @wrap_u8c (And.intro @wrap_u16c (And.intro @wrap_u32c (And.intro @wrap_u64c (And.intro @wrap_i64 (And.intro @wrap_u8 (And.intro @wrap_u16 (And.intro @wrap_u32 (And.intro @wrap_u64 (And.intro @wrap_i32 (And.intro @bits_i64 (And.intro @bits_u64 (And.intro @bits_u32 (And.intro @bits_u16 (And.intro @bits_u8 (And.intro @bits_i32 (And.intro @sv_nil (And.intro @sv_one (And.intro @map_cV (And.intro @map_nV (And.intro @cond_tV (And.intro @cond_fV (And.intro @Bool.not_true (And.intro @Bool.not_false (And.intro @Bool.not_not (And.intro @decide_true (And.intro @decide_false (And.intro @Int.ofNat_eq_natCast (And.intro @Int.cast_ofNat_Int (And.intro @and_self (And.intro @Int.toNat_natCast (And.intro @beq_bb (And.intro @bne_bb (And.intro @Bool.false_xor (And.intro @Bool.true_xor (And.intro @len_cV (And.intro @len_nV (And.intro @take_0V (And.intro @take_sV (And.intro @drop_0V (And.intro @drop_sV (And.intro @app_nV (And.intro @app_cV (And.intro @getD_0V (And.intro @getD_sV (And.intro @set_0V (And.intro @set_sV (And.intro @Nat.min_eq_left (And.intro @Nat.zero_add (And.intro @Nat.add_zero (And.intro @Nat.mul_one (@Nat.zero_mul)))))))))))))))))))))))))))))))))))))))))))))))))))))))))))))))))))))))))))))))))))))))))))))))))))))))))))))))))))))))))))))))))))))))))))))))))))))))))))))))))))))))))))))))))))))))))))))))))))))))))))))))))))))))))))))))))))))))))))))))))))))))))))))))))))))))))))
def hcn := And.intro @Bool.not_eq_true' (@Bool.not_eq_false')
def lnv := And.intro @List.length_append.{0} (And.intro @List.length_cons.{0} (And.intro @List.length_nil.{0} (And.intro @List.length_take.{0} (And.intro @List.length_drop.{0} (And.intro @List.length_map.{0, 0} (@List.length_set.{0}))))))
def hcl := And.intro @Int.not_lt (And.intro @Int.not_le (And.intro @Nat.not_lt (And.intro @Nat.not_le (And.intro @decide_eq_true_eq (And.intro @decide_eq_false_iff_not (And.intro @Bool.not_eq_true (And.intro @Bool.not_eq_false (And.intro @Bool.not_true (And.intro @Bool.not_false (And.intro @Bool.not_eq_eq_eq_not (@Decidable.not_not)))))))))))
/-- the next step of code, by its form -/
class St (p : Prop) (q : outParam Prop) : Prop where
  h : q → p
section
variable {P : Program} {nt : Nat} {t : F} {h : H} {K : X → F → H → Prop} {a b : CC} {l : List CO} {id : Nat} {o : O}
instance : St (Ok P nt (.seq a b) t h K) (Ok P nt a t h (Sq P nt b K)) := ⟨Ok.sq⟩
instance : St (Ok P nt (.block id a) t h K) (Ok P nt a t h (Out id K)) := ⟨Ok.block⟩
instance : St (Ok P nt (.region l) t h K) (WO P l t h (K .normal)) := ⟨Ok.rg⟩
instance : St (Ok P nt (.cond o a b) t h K) (CD (oV o t) (Ok P nt a t h K) (Ok P nt b t h K)) := ⟨Ok.cd⟩
instance : St (Ok P nt .skip t h K) (K .normal t h) := ⟨Ok.skip⟩
instance : St (Ok P nt (.exit id) t h K) (K (.exit id) t h) := ⟨Ok.exit⟩
instance : St (Ok P nt .ret t h K) (K .ret t h) := ⟨Ok.ret⟩
end
end Go.Ev

set_option linter.all false
namespace Go.Ev
open Go
/-- a block of the call's own, made of a text's bytes or of cells -/
def Own1 (h : H) (id : B) (xs : List V) : Prop := ∃ blk, h.heap.get id = some blk ∧ blk.cur = 0 ∧ blk.min = 0 ∧ blk.fr ≤ 1 ∧ B.val h.floor ≤ B.val id ∧ B.val id < B.val h.next ∧ ∀ i y, xs[i]? = some y → blk.cells.getN i = some y
theorem Own1.row {h : H} {id : B} {xs : List V} (o : Own1 h id xs) : Row h id 0 0 xs := by
  obtain ⟨blk, h1, h2, h3, h4, h5, h6, h7⟩ := o
  refine ⟨fun _ => ⟨blk, h1, by omega⟩, fun i y hy => ?_⟩
  unfold Ev.cell cellB
  rw [h1]
  show (if blk.min ≤ 0 then blk.cells.getN (0 + i) else none) = _
  rw [if_pos (by omega), Nat.zero_add]
  exact h7 i y hy
theorem Own1.lst {h : H} {id : B} {xs : List V} (o : Own1 h id xs) (cap : Option Nat) : Lst h (.l id 0 0 xs.length xs.length cap) xs := by
  have r := o.row
  obtain ⟨blk, h1, h2, h3, h4, h5, h6, h7⟩ := o
  exact .inr ⟨id, 0, 0, _, cap, rfl, by omega, h6, r⟩
theorem store_own1 {h : H} {id : B} {xs : List V} {j fin : Nat} {y : V} (o : Own1 h id xs) (hj : j < fin) (hfit : j < 2 ^ 37) (h1 : oneV y = true) : ∃ h', (∀ k, store h id 0 j fin [y] k = k h') ∧ Own1 h' id (xs.set j y) ∧ Stay (fun i => i = id) h h' := by
  obtain ⟨blk, a1, a2, a3, a4, a5, a6, a7⟩ := o
  obtain ⟨next, floor, heap⟩ := h
  obtain ⟨cur, min, sz, cells, bel, fr⟩ := blk
  simp only at a2 a3 a4 a7
  subst a2; subst a3
  obtain ⟨tr, t1, t2, t3⟩ := setList_fine [y] j cells (by simp; omega)
  obtain ⟨hp, s1, s2, s3⟩ := setK_ok id (⟨0, 0, sz, tr, bel, fr⟩ : Blk) heap
  have e1 : B.geB floor id = true := by cases floor <;> first | rfl | (show Nat.ble _ _ = true; rw [Nat.ble_eq]; exact a5)
  have e2 : Nat.ble (Nat.add j 1) fin = true := by rw [Nat.ble_eq]; exact hj
  have e3 : allOne [y] = true := by show Bool.rec false true (oneV y) = true; rw [h1]
  have e4 : frOk fr j = true := by
    match fr, a4 with
    | 0, _ => rfl
    | 1, _ => rfl
  have e5 : Nat.beq 0 0 = true := rfl
  have e6 : Nat.ble 0 0 = true := rfl
  have a1' : heap.get id = some ⟨0, 0, sz, cells, bel, fr⟩ := a1
  refine ⟨⟨next, floor, hp⟩, fun k => ?_, ⟨_, s2, rfl, rfl, a4, a5, a6, fun i z hz => ?_⟩, ⟨rfl, Nat.le_refl _, fun i _ hi => s3 i hi⟩⟩
  · simp only [store, hK_mk, a1', optK_some, blkK_mk, List.length_singleton, e5, e6, e1, e2, e3, e4, ifK_true]
    rw [t1, s1]
  · show tr.getN i = some z
    rw [List.getElem?_set] at hz
    split at hz
    · rename_i hij
      subst hij
      split at hz
      · cases hz
        exact t2 0 y rfl
      · cases hz
    · rename_i hij
      rw [t3 i (by simp; omega)]
      exact a7 i z hz
section
variable {P : Program} {h : H} {N : Nx} {id : B} {xs : List V} {j fin el : Nat} {x y : V}
theorem ST.own1 (o : Own1 h id xs) (hc : cells x = [y]) (h1 : oneV y = true) (hj : j < fin) (hfit : j < 2 ^ 37) (k : ∀ h', Own1 h' id (xs.set j y) → Stay (fun i => i = id) h h' → N.go P (.tu []) h') : ST P 1 (.p id 0 j fin) x h N := by
  obtain ⟨h', a1, a2, a3⟩ := store_own1 o hj hfit h1
  refine hm_of (v := .tu []) (h' := h') (fun k => ?_) (k h' a2 a3)
  show ifK (Nat.beq (cells x).length 1) (fun _ => store h id 0 j fin (cells x) fun h => k (.tu []) h) = _
  rw [hc]
  show store h id 0 j fin [y] (fun h => k (.tu []) h) = _
  rw [a1]
/-- []byte(text), to be written into -/
theorem SB.own {c : List UInt8} (hf : B.val h.floor ≤ B.val h.next) (hl : c.length ≤ 1048576)
    (k : ∀ h', Stay nowhere h h' → B.val h'.next = B.val h.next + 1 → Own1 h' h.next (c.map bv) → N.go P (.l h.next 0 0 c.length c.length (capF c.length)) h') : SB P el (sv c) h N := by
  obtain ⟨h', a1, a2, a3, a4, a5, cs, a6, a7⟩ := s2b_new el hf hl
  have := fun k => a1 (.c (sv c)) F.zero (fun _ _ _ _ => false) k rfl
  refine hm_of (v := .l h.next 0 0 c.length c.length (capF c.length)) (h' := h') (fun k => ?_) (k h' a2 a3 ⟨_, a6, rfl, rfl, by show 1 ≤ 1; omega, by rw [a2.floor]; exact hf, by omega, a7⟩)
  have e := this k
  simp only [doS2B, oE_eq] at e
  exact e
end
/-- string([]byte{..}) in a region that draws -/
theorem AL.strU {P : Program} {t : F} {h : H} {K : F → H → Prop} {l : List CO} {el n m : Nat} {cs : List V} {bs : List UInt8} {len fin : Nat} {cap : Option Nat} (hc : cs = bs.map bv) (hne : bs ≠ []) (e1 : len = bs.length) (e2 : fin = bs.length) (hl : bs.length ≤ 1048576) (hf : B.val h.floor ≤ B.val h.next)
    (k : ∀ h' u, Stay nowhere h h' → DO P l (put n (sv bs) (put m u t)) h' K) : AL P el cs (fun id => .l id 0 0 len fin cap) (reFloor h) (.u m (.mk .none (.some (slOf n)) false (.mk (doB2S (.t (slOf m)))) :: l) t h K) := by
  subst hc; subst e1; subst e2
  have hn : (reFloor h).next = h.next := by cases h; rfl
  refine AL.own (by rw [List.length_map]; omega) (by cases h; exact Nat.le_refl _) fun h1' s1 n1 o1 => ?_
  have hL := (o1.unfloor (h := h) (by rw [hn]; exact hf)).lst cap
  rw [List.length_map] at hL
  rw [go_u, do_u, or_b2s, oV_t, get_put', if_pos rfl, bs_re, hL.bs hne]
  exact k _ _ s1.unfloor
/-- the i-th row of a matrix -/
noncomputable def rowOf (h : H) (v : V) (i : Nat) : V := (cell h (lid v) (lg v) (loff v + i)).getD .u
/-- a matrix that was there when the call began -/
structure MA (h0 : H) (v : V) (M : List (List Bool)) (g : H) : Prop where
  mx : Mx h0 v M
  st : Stay nowhere h0 g
section
variable {P : Program} {N : Nx} {h0 g h' : H} {v : V} {M : List (List Bool)} {i j : Nat}
theorem MA.grow (a : MA h0 v M g) (s : Stay nowhere g h') : MA h0 v M h' := ⟨a.mx, a.st.trans s⟩
theorem Mx.rowOf (a : Mx h0 v M) (hi : i < M.length) : Bl h0 (rowOf h0 v i) (M.getD i []) := by
  obtain ⟨rows, r1, r2, r3⟩ := a
  have hr : rows[i]? = some rows[i] := by simp
  have : Go.Ev.rowOf h0 v i = rows[i] := by
    unfold Go.Ev.rowOf
    rcases r1 with ⟨rfl, e⟩ | ⟨id, g, off, fin, cap, rfl, h2, h3, h4⟩
    · subst e; simp at r2; omega
    · have := h4.2 i _ hr
      show (cell h0 id g (off + i)).getD .u = _
      rw [this]; rfl
  rw [this]
  exact r3 i _ hr
theorem MA.row (a : MA h0 v M g) (hi : i < M.length) : Bl g (rowOf h0 v i) (M.getD i []) := (a.mx.rowOf hi).grow a.st
theorem MA.ln (a : MA h0 v M g) (g' : H) : H1 P gLen v g' N = N.go P (.i .i64 (M.length : Int)) g' := by
  obtain ⟨rows, r1, r2, r3⟩ := a.mx
  rw [r1.ln, r2]
theorem MA.ix (a : MA h0 v M g) (g' : H) (hi : i < M.length) : IX P 1 v i g' N = N.go P (.p (lid v) (lg v) (loff v + i) (lfin v)) g' := by
  obtain ⟨rows, r1, r2, r3⟩ := a.mx
  exact r1.ix (by omega)
theorem MA.ld (a : MA h0 v M g) (hi : i < M.length) : L1 P (lid v) (lg v) (loff v + i) (lfin v) g N = N.go P (rowOf h0 v i) g := by
  obtain ⟨rows, r1, r2, r3⟩ := a.mx
  have hr : rows[i]? = some rows[i] := by simp
  refine hv_of fun k => ?_
  have e : Go.Ev.rowOf h0 v i = rows[i] := by
    unfold Go.Ev.rowOf
    rcases r1 with ⟨rfl, e⟩ | ⟨id, g, off, fin, cap, rfl, h2, h3, h4⟩
    · subst e; simp at r2; omega
    · have := h4.2 i _ hr
      show (cell h0 id g (off + i)).getD .u = _
      rw [this]; rfl
  rw [load_lst (r1.grow a.st) hr, e]
end
theorem Row.ln {P : Program} {h : H} {N : Nx} {id : B} {g off fin size : Nat} {xs : List V} (r : Row h id g 0 xs) (hi : off + size ≤ xs.length) (h1 : 1 ≤ size) (hf : off + size ≤ fin) : LN P id g off fin size h N = N.go P (.a ((xs.drop off).take size)) h := hv_of fun k => by
  have hne : (xs.drop off).take size ≠ [] := by
    intro e
    have := congrArg List.length e
    rw [List.length_take, List.length_drop] at this
    simp at this; omega
  refine loadN_row (vs := (xs.drop off).take size) ⟨fun _ => r.1 (by intro e; subst e; simp at hi; omega), fun i y hy => ?_⟩ (by rw [List.length_take, List.length_drop]; omega) hne hf _
  rw [List.getElem?_take] at hy
  split at hy
  · rw [List.getElem?_drop] at hy
    have := r.2 (off + i) y hy
    rwa [Nat.zero_add] at this
  · cases hy
noncomputable def gPtr (ne : Bool) (x y : V) (k : V → Bool) : Bool := vPZ x (fun _ => vPZ y (fun _ => k (.b (!ne))) fun _ _ _ _ => k (.b ne)) (ptrK ne y k)
noncomputable def gSData (x : V) (k : V → Bool) : Bool := vL x (fun _ => k .p0) fun id g off len fin _ => ifK (Nat.ble 1 len) fun _ => k (.p id g off fin)
def PU (P : Program) (x : V) (h : H) (N : Nx) : Prop := HV P (fun k => vP x fun id g off fin => load1 h id g off fin fun _ => k (.p id g off fin)) h N
def UP (P : Program) (u size : Nat) (x : V) (h : H) (N : Nx) : Prop := HV P (fun k => vP x fun id g off fin => ifK (Nat.beq off 0) fun _ => ifK (Nat.ble size fin) fun _ => elK h id g u fun _ => k (.p id g off fin)) h N
section
variable {P : Program} {t : F} {h : H} {N : Nx} {x y : O} {ne : Bool} {id id' : B} {g off fin g' off' fin' : Nat} {u size : Nat}
theorem or_ptr : OR P (doPtr ne x y) t h N = H2 P (gPtr ne) (oV x t) (oV y t) h N := or_hv fun cf k => ev_ptr ..
theorem h2_ptr00 : H2 P (gPtr ne) .p0 .p0 h N = N.go P (.b (!ne)) h := hv_of fun k => rfl
theorem h2_ptr01 : H2 P (gPtr ne) .p0 (.p id g off fin) h N = N.go P (.b ne) h := hv_of fun k => rfl
theorem h2_ptr10 : H2 P (gPtr ne) (.p id g off fin) .p0 h N = N.go P (.b ne) h := hv_of fun k => by
  show ptrK ne .p0 k id g off fin = _
  exact ptrK_p0 ne k id g off fin
theorem h2_ptr11 : H2 P (gPtr ne) (.p id g off fin) (.p id g off fin') h N = N.go P (.b (!ne)) h := hv_of fun k => by
  show ptrK ne (.p id g off fin') k id g off fin = _
  rw [ptrK_same]; cases ne <;> rfl
theorem or_sdata : OR P (doSData x) t h N = H1 P gSData (oV x t) h N := or_hv fun cf k => ev_sdata ..
theorem or_p2u : OR P (doP2U x) t h N = PU P (oV x t) h N := or_hv fun cf k => ev_p2u ..
theorem or_u2p : OR P (doU2P u size x) t h N = UP P u size (oV x t) h N := or_hv fun cf k => ev_u2p ..
theorem OwnE.pu {xs : List V} {el : Nat} (o : OwnE h id el xs) (hi : off < xs.length) (hf : off < fin) : PU P (.p id 0 off fin) h N = N.go P (.p id 0 off fin) h := hv_of fun k => by
  show load1 h id 0 off fin (fun _ => k (.p id 0 off fin)) = _
  have := o.own.row.2 off (xs.getD off .u) (by simp [hi])
  rw [Nat.zero_add] at this
  rw [load1_cell this hf]
theorem OwnE.up {xs : List V} {el : Nat} (o : OwnE h id el xs) (hf : size ≤ fin) : UP P el size (.p id 0 0 fin) h N = N.go P (.p id 0 0 fin) h := hv_of fun k => by
  have e1 : Nat.ble size fin = true := by rw [Nat.ble_eq]; exact hf
  show ifK (Nat.beq 0 0) (fun _ => ifK (Nat.ble size fin) fun _ => elK h id 0 el fun _ => k (.p id 0 0 fin)) = _
  have e2 : Nat.beq 0 0 = true := rfl
  rw [e2, ifK_true, e1, ifK_true, elK_own o]
end
section
variable {P : Program} {h : H} {N : Nx} {id : B} {xs : List V} {j fin el : Nat} {x y : V}
theorem ST.ownE (o : OwnE h id el xs) (hc : cells x = [y]) (h1 : oneV y = true) (hj : j < fin) (hfit : j < 2 ^ 37) (k : ∀ h', OwnE h' id el (xs.set j y) → Stay (fun i => i = id) h h' → N.go P (.tu []) h') : ST P 1 (.p id 0 j fin) x h N := by
  obtain ⟨h', a1, a2, a3⟩ := store_ownE o hj hfit h1
  refine hm_of (v := .tu []) (h' := h') (fun k => ?_) (k h' a2 a3)
  show ifK (Nat.beq (cells x).length 1) (fun _ => store h id 0 j fin (cells x) fun h => k (.tu []) h) = _
  rw [hc]
  show store h id 0 j fin [y] (fun h => k (.tu []) h) = _
  rw [a1]
/-- append(v, text...) -/
theorem AS.buf {v : V} {a c : List UInt8} (hb : Buf h el 1 v (a.map bv)) (hf : B.val h.floor ≤ B.val h.next) (hl : a.length + c.length ≤ 1048576)
    (k : ∀ v' h', Buf h' el 1 v' ((a ++ c).map bv) → Stay (isOf v) h h' → (∀ i, isOf v' i → isOf v i ∨ B.val h.next ≤ B.val i) → Top h' v' → N.go P v' h') : AS P el v (sv c) h N := by
  obtain ⟨v', h', a1, a2, a3, a4, a5⟩ := append_top (vs := c.map bv) (n := c.length) hb hf (Nat.le_refl _) (by simp) (allOne_bv c) (by simpa using hl)
  refine hm_of (v := v') (h' := h') (fun k => ?_) (k v' h' (by rw [List.map_append]; exact a2) a3 a4 a5)
  show unpK c.length (pk c) [] (fun vs => append2 el 1 v c.length vs h k) = _
  rw [unpK_map _ _ _ _ rfl, List.append_nil, a1]
theorem buf_cells {v : V} (b : Buf h el 1 v xs) : cells v = [v] ∧ oneV v = true ∧ knownV v = true := by rcases b with ⟨rfl, _⟩ | ⟨_, _, _, _, rfl, _⟩ <;> exact ⟨rfl, rfl, rfl⟩
end
def US (P : Program) (e : Nat) (x y : V) (h : H) (N : Nx) : Prop := HM P (fun k => vI y fun kd n => ifK (kdEq kd .i64) fun _ => natK n fun n => vPZ x (fun _ => ifK (Nat.beq n 0) fun _ => k (.s 0 0) h) fun id g off fin => uStrK e n h k id g off fin) N
theorem US.of {P : Program} {e : Nat} {x y v : V} {h h' : H} {N : Nx} (hk : ∀ k : V → H → Bool, (vI y fun kd n => ifK (kdEq kd .i64) fun _ => natK n fun n => vPZ x (fun _ => ifK (Nat.beq n 0) fun _ => k (.s 0 0) h) fun id g off fin => uStrK e n h k id g off fin) = k v h') (k : N.go P v h') : US P e x y h N := hm_of hk k
theorem or_ustr {P : Program} {e : Nat} {x y : O} {t : F} {h : H} {N : Nx} : OR P (doUStr e x y) t h N = US P e (oV x t) (oV y t) h N := or_hm fun cf k => by simp only [doUStr, oE_eq]
end Go.Ev

set_option linter.all false
namespace Go.Ev
open Go
section
variable {h : H}
/-- all cells of a block at once -/
theorem ST.ownAll {P : Program} {N : Nx} {id : B} {xs vs : List V} {x : V} {size fin : Nat} (o : Own h id xs) (hc : cells x = vs) (hs : vs.length = size) (h1 : allOne vs = true) (hj : vs.length ≤ fin) (hfit : vs.length < 2 ^ 37)
    (k : ∀ h', Own h' id vs → Stay (fun i => i = id) h h' → N.go P (.tu []) h') : ST P size (.p id 0 0 fin) x h N := by
  obtain ⟨blk, a1, a2, a3, a4, a5, a6, a7⟩ := o
  obtain ⟨next, floor, heap⟩ := h
  obtain ⟨cur, min, sz, cs, bel, fr⟩ := blk
  simp only at a2 a3 a4 a7
  subst a2; subst a3; subst a4
  obtain ⟨tr, t1, t2, t3⟩ := setList_fine vs 0 cs (by omega)
  obtain ⟨hp, s1, s2, s3⟩ := setK_ok id (⟨0, 0, sz, tr, bel, 0⟩ : Blk) heap
  have e1 : B.geB floor id = true := by cases floor <;> first | rfl | (show Nat.ble _ _ = true; rw [Nat.ble_eq]; exact a5)
  have e2 : Nat.ble (Nat.add 0 vs.length) fin = true := by rw [Nat.ble_eq]; show 0 + vs.length ≤ fin; omega
  have e4 : frOk 0 0 = true := rfl
  have e5 : Nat.beq 0 0 = true := rfl
  have e6 : Nat.ble 0 0 = true := rfl
  have e7 : Nat.beq vs.length size = true := by rw [hs]; simp
  have a1' : heap.get id = some ⟨0, 0, sz, cs, bel, 0⟩ := a1
  refine hm_of (v := .tu []) (h' := ⟨next, floor, hp⟩) (fun q => ?_) (k _ ⟨_, s2, rfl, rfl, rfl, a5, a6, fun i z hz => by have := t2 i z hz; rwa [Nat.zero_add] at this⟩ ⟨rfl, Nat.le_refl _, fun i _ hi => s3 i hi⟩)
  show ifK (Nat.beq (cells x).length size) (fun _ => store ⟨next, floor, heap⟩ id 0 0 fin (cells x) fun h => q (.tu []) h) = _
  rw [hc, e7, ifK_true]
  simp only [store, hK_mk, a1', optK_some, blkK_mk, e5, e6, e1, e2, h1, e4, ifK_true]
  rw [t1, s1]
end
theorem ST.all {P : Program} {h : H} {N : Nx} {id : B} {xs vs : List V} {size fin : Nat} (o : Own h id xs) (hs : vs.length = size) (h1 : allOne vs = true) (hj : vs.length ≤ fin) (hfit : vs.length < 2 ^ 37)
    (k : ∀ h', Own h' id vs → Stay (fun i => i = id) h h' → N.go P (.tu []) h') : ST P size (.p id 0 0 fin) (.a vs) h N := ST.ownAll o rfl hs h1 hj hfit k
theorem re_fl (h : H) : B.val (reFloor h).floor ≤ B.val (reFloor h).next := by cases h; exact Nat.le_refl _
/-- a call in a region that draws -/
theorem CL.stayU {P : Program} {f : FuncId} {vs : List V} {h : H} {e : V} {m : Nat} {l : List CO} {t : F} {K : F → H → Prop} (a : FnOk P f vs (reFloor h) fun y h' => y = e ∧ Stay nowhere (reFloor h) h')
    (k : ∀ h', Stay nowhere h h' → DO P l (put m e t) h' K) : CL P f vs (reFloor h) (.u m l t h K) := ⟨_, a, fun v h' hq => by rw [hq.1, go_u]; exact k _ hq.2.unfloor⟩
/-- a row of structs of n cells each -/
def Ss {α : Type} (n : Nat) (c : α → List V) (h : H) (v : V) (L : List α) : Prop :=
  (v = .l0 ∧ L = []) ∨ ∃ id g off fin cap, v = .l id g off L.length fin cap ∧ off + L.length * n ≤ fin ∧ B.val id < B.val h.next ∧ Row h id g off (L.flatMap c)
section
variable {α : Type} [Inhabited α] {n : Nat} {c : α → List V}
theorem fm_len (hc : ∀ e, (c e).length = n) : ∀ (L : List α), (L.flatMap c).length = L.length * n
  | [] => by simp
  | a :: L => by rw [List.flatMap_cons, List.length_append, hc, fm_len hc L, List.length_cons, Nat.add_mul]; omega
theorem fm_at (hc : ∀ e, (c e).length = n) : ∀ {L : List α} {i : Nat}, i < L.length → ((L.flatMap c).drop (i * n)).take n = c (L.getD i default)
  | [], i, h => by simp at h
  | a :: L, 0, h => by
    rw [List.flatMap_cons, Nat.zero_mul, List.drop_zero, List.take_append_of_le_length (by rw [hc]; exact Nat.le_refl _), List.take_of_length_le (by rw [hc]; exact Nat.le_refl _)]; rfl
  | a :: L, i + 1, h => by
    have e : (i + 1) * n = (c a).length + i * n := by rw [hc, Nat.add_mul]; omega
    rw [List.flatMap_cons, e, ← List.drop_drop, List.drop_left, fm_at hc (by simpa using h)]
    simp [List.getD]
theorem fm_get (hc : ∀ e, (c e).length = n) {L : List α} {i d : Nat} (hi : i < L.length) (hd : d < n) : (L.flatMap c)[i * n + d]? = some ((c (L.getD i default)).getD d .u) := by
  have e : (((L.flatMap c).drop (i * n)).take n)[d]? = (c (L.getD i default))[d]? := by rw [fm_at hc hi]
  rw [List.getElem?_take, if_pos hd, List.getElem?_drop] at e
  rw [e]
  have : d < (c (L.getD i default)).length := by rw [hc]; exact hd
  have e3 : ∀ (x : List V), d < x.length → x[d]? = some (x.getD d .u) := fun x hx => by simp [List.getD, hx]
  exact e3 _ this
theorem fm_take (hc : ∀ e, (c e).length = n) : ∀ (L : List α) (k : Nat), (L.take k).flatMap c = (L.flatMap c).take (k * n)
  | [], k => by simp
  | a :: L, 0 => by simp
  | a :: L, k + 1 => by
    have e : (k + 1) * n = (c a).length + k * n := by rw [hc, Nat.add_mul]; omega
    have e2 : ((c a) ++ L.flatMap c).take ((c a).length + k * n) = c a ++ (L.flatMap c).take (k * n) := by
      rw [List.take_append, Nat.add_sub_cancel_left, List.take_of_length_le (Nat.le_add_right _ _)]
    rw [List.take_succ_cons, List.flatMap_cons, List.flatMap_cons, fm_take hc L k, e, e2]
theorem fm_drop (hc : ∀ e, (c e).length = n) : ∀ (L : List α) (k : Nat), (L.drop k).flatMap c = (L.flatMap c).drop (k * n)
  | [], k => by simp
  | a :: L, 0 => by simp
  | a :: L, k + 1 => by
    rw [List.drop_succ_cons, List.flatMap_cons, fm_drop hc L k, show (k + 1) * n = (c a).length + k * n by rw [hc, Nat.add_mul]; omega, ← List.drop_drop, List.drop_left]
variable {P : Program} {h h' g' : H} {N : Nx} {v : V} {L : List α} {i d : Nat}
theorem Ss.ln (a : Ss n c h v L) : H1 P gLen v g' N = N.go P (.i .i64 (L.length : Int)) g' := by
  rcases a with ⟨rfl, rfl⟩ | ⟨id, g, off, fin, cap, rfl, _⟩
  · exact gLen_l0
  · exact gLen_l
theorem Ss.ix (a : Ss n c h v L) (hi : i < L.length) : IX P n v i g' N = N.go P (.p (lid v) (lg v) (loff v + i * n) (lfin v)) g' := by
  rcases a with ⟨rfl, rfl⟩ | ⟨id, g, off, fin, cap, rfl, _⟩
  · simp at hi
  · exact ix_l hi
theorem Ss.ld (a : Ss n c h v L) (hc : ∀ e, (c e).length = n) (hi : i < L.length) (hd : d < n) : L1 P (lid v) (lg v) (loff v + i * n + d) (lfin v) h N = N.go P ((c (L.getD i default)).getD d .u) h := by
  rcases a with ⟨rfl, rfl⟩ | ⟨id, g, off, fin, cap, rfl, hf, hl, r⟩
  · simp at hi
  · refine hv_of fun k => ?_
    have := r.2 (i * n + d) _ (fm_get hc hi hd)
    rw [← Nat.add_assoc] at this
    have h1 : (i + 1) * n ≤ L.length * n := Nat.mul_le_mul_right n hi
    rw [Nat.add_mul] at h1
    exact load1_cell this (by show off + i * n + d < fin; omega) k
theorem Ss.ldA (a : Ss n c h v L) (hc : ∀ e, (c e).length = n) (hn : 1 ≤ n) (hi : i < L.length) : LN P (lid v) (lg v) (loff v + i * n) (lfin v) n h N = N.go P (.a (c (L.getD i default))) h := by
  rcases a with ⟨rfl, rfl⟩ | ⟨id, g, off, fin, cap, rfl, hf, hl, r⟩
  · simp at hi
  · refine hv_of fun k => ?_
    have h1 : (i + 1) * n ≤ L.length * n := Nat.mul_le_mul_right n hi
    rw [Nat.add_mul] at h1
    have hlen := hc (L.getD i default)
    refine loadN_row (vs := c (L.getD i default)) ⟨fun _ => r.1 ?_, fun j y hy => ?_⟩ hlen (by intro e; rw [e] at hlen; simp at hlen; omega) (by show off + i * n + n ≤ fin; omega) fun vs => k (.a vs)
    · intro e
      have h2 := fm_len hc L
      rw [e] at h2
      have h3 : L.length * n = 0 := h2.symm
      omega
    · have hj : j < n := by rw [← hlen]; exact (List.getElem?_eq_some_iff.1 hy).1
      have e := fm_get hc hi hj
      rw [List.getD, hy] at e
      have := r.2 (i * n + j) _ e
      rw [← Nat.add_assoc] at this
      exact this
theorem Ss.grow (a : Ss n c h v L) (s : Stay nowhere h h') : Ss n c h' v L := by
  rcases a with ⟨rfl, rfl⟩ | ⟨id, g, off, fin, cap, rfl, hf, hl, r⟩
  · exact .inl ⟨rfl, rfl⟩
  · exact .inr ⟨id, g, off, fin, cap, rfl, hf, Nat.lt_of_lt_of_le hl s.next, r.grow s hl⟩
theorem Ss.stay {p : B → Prop} (a : Ss n c h v L) (s : Stay p h h') (hp : ∀ id, isOf v id → ¬ p id) : Ss n c h' v L := by
  rcases a with ⟨rfl, rfl⟩ | ⟨id, g, off, fin, cap, rfl, hf, hl, r⟩
  · exact .inl ⟨rfl, rfl⟩
  · exact .inr ⟨id, g, off, fin, cap, rfl, hf, Nat.lt_of_lt_of_le hl s.next, r.stay s hl (hp id ⟨_, _, _, _, _, rfl⟩)⟩
theorem Ss.nil : Ss n c h .l0 ([] : List α) := .inl ⟨rfl, rfl⟩
/-- of a literal -/
theorem Ss.lit {id : B} {xs : List V} {cap : Option Nat} {len fin : Nat} (o : Own h id xs) (e : xs = L.flatMap c) (hc : ∀ e, (c e).length = n) (hl : len = L.length) (hf : L.length * n ≤ fin) : Ss n c h (.l id 0 0 len fin cap) L := by
  subst hl; subst e
  have r := o.row
  obtain ⟨blk, h1, h2, h3, h4, h5, h6, h7⟩ := o
  exact .inr ⟨id, 0, 0, fin, cap, rfl, by omega, h6, r⟩
/-- of a row that grew -/
theorem Ss.buf {el : Nat} {xs : List V} (b : Buf h el n v xs) (e : xs = L.flatMap c) (hc : ∀ e, (c e).length = n) (hn : 1 ≤ n) : Ss n c h v L := by
  subst e
  rcases b with ⟨rfl, he⟩ | ⟨id, g, m, blk, rfl, h1, h2, h3, h4, h5, h6, h7, h8, h9, h10⟩
  · refine .inl ⟨rfl, ?_⟩
    cases L with
    | nil => rfl
    | cons a L =>
      have := fm_len hc (a :: L)
      rw [he] at this
      have h3 : (L.length + 1) * n = 0 := this.symm
      rw [Nat.add_mul] at h3; omega
  · have hm : m = L.length := by
      rw [fm_len hc] at h2
      exact (Nat.eq_of_mul_eq_mul_right (by omega) h2).symm
    subst hm
    refine .inr ⟨id, g, 0, (L.flatMap c).length, none, rfl, by rw [fm_len hc]; omega, h4, fun _ => ⟨blk, h5, h6.1⟩, fun i y hy => ?_⟩
    unfold Ev.cell cellB
    rw [h5]
    show (if blk.min ≤ g then blk.cells.getN (0 + i) else none) = _
    rw [if_pos h6.1, Nat.zero_add]
    exact h10 i y hy
/-- a slice whose end is where it should be -/
def SwN (n : Nat) (v : V) : Prop := v = .l0 ∨ ∃ id g off m fin cap, v = .l id g off m fin cap ∧ match cap with
  | some c => m ≤ c ∧ (18446744073709551616 ≤ c → m = 0)
  | none => fin = off + m * n
theorem swn_capS {n off k L : Nat} : match capS n k L with
  | some c => k ≤ c ∧ (18446744073709551616 ≤ c → k = 0)
  | none => off + k * n = off + k * n := by
  cases k with
  | zero => (cases L with | zero => exact rfl | succ L => exact ⟨Nat.zero_le _, fun _ => rfl⟩)
  | succ k => exact rfl
theorem row_hi {id : B} {g off k : Nat} (hc : ∀ e, (c e).length = n) (r : Row h id g off (L.flatMap c)) : Row h id g off ((L.take k).flatMap c) := by
  rw [fm_take hc]
  refine ⟨fun hne => r.1 fun e => hne (by rw [e]; simp), fun i y hy => r.2 i y ?_⟩
  rw [List.getElem?_take] at hy
  split at hy
  · exact hy
  · cases hy
theorem row_lo {id : B} {g off k : Nat} (hc : ∀ e, (c e).length = n) (r : Row h id g off (L.flatMap c)) : Row h id g (off + k * n) ((L.drop k).flatMap c) := by
  rw [fm_drop hc]
  refine ⟨fun hne => r.1 fun e => hne (by rw [e]; simp), fun i y hy => ?_⟩
  rw [List.getElem?_drop] at hy
  have := r.2 _ y hy
  rwa [← Nat.add_assoc] at this
theorem Ss.hi {kd : IntKind} {k : Nat} (a : Ss n c h v L) (hc : ∀ e, (c e).length = n) (w : SwN n v) (hk : k ≤ L.length) : ∃ u, Ss n c h u (L.take k) ∧ SwN n u ∧ ∀ (g : H) (N : Nx), H2 P (slHiV n) v (.i kd (k : Int)) g N = N.go P u g := by
  have e0 : Nat.ble 0 k = true := by rw [Nat.ble_eq]; omega
  have hkn : k * n ≤ L.length * n := Nat.mul_le_mul_right n hk
  have htk : (L.take k).length = k := by rw [List.length_take]; omega
  rcases a with ⟨rfl, rfl⟩ | ⟨id, g, off, fin, cap, rfl, h2, h3, r⟩
  · have : k = 0 := by simpa using hk
    subst this
    exact ⟨.l0, .inl ⟨rfl, by simp⟩, .inl rfl, fun g N => hv_of fun k => rfl⟩
  rcases w with e | ⟨id', g', off', n', fin', cap', e, hw⟩
  · cases e
  cases e
  cases cap with
  | none =>
    have hw : fin = off + L.length * n := hw
    refine ⟨.l id g off k (off + k * n) (capS n k L.length), .inr ⟨id, g, off, off + k * n, capS n k L.length, by rw [htk], by rw [htk]; exact Nat.le_refl _, h3, row_hi hc r⟩, .inr ⟨_, _, _, _, _, _, rfl, swn_capS⟩, fun g0 N => hv_of fun q => ?_⟩
    have e1 : Nat.ble k L.length = true := by rw [Nat.ble_eq]; exact hk
    have e2 : Nat.beq fin (Nat.add off (Nat.mul L.length n)) = true := by rw [hw]; exact Nat.beq_refl _
    unfold slHiV
    simp only [vL_l, vI_i, natK_cast, e0, ifK_true]
    show sliceN n id g off L.length fin 0 k q = _
    unfold sliceN
    rw [e1, ifK_true, e2, ifK_true, fN_eq, fN_eq, fN_eq]
    show q (.l id g (off + 0 * n) (k - 0) (off + k * n) (capS n k L.length)) = _
    simp
  | some cc =>
    have hw2 : 18446744073709551616 ≤ cc → L.length = 0 := hw.2
    have hw : L.length ≤ cc := hw.1
    have e1 : Nat.ble k cc = true := by rw [Nat.ble_eq]; omega
    cases hfc : flagB cc with
    | true =>
      have hcc := flagB_t hfc
      have hx := hw2 hcc
      have hk0 : k = 0 := by omega
      subst hk0
      refine ⟨.l id g off 0 off (some cc), .inr ⟨id, g, off, off, some cc, by simp, by simp, h3, row_hi hc r⟩, .inr ⟨_, _, _, _, _, _, rfl, Nat.zero_le _, fun _ => rfl⟩, fun g0 N => hv_of fun q => ?_⟩
      unfold slHiV
      simp only [vL_l, vI_i, natK_cast, e0, ifK_true]
      show boolK (flagB cc) (fun _ => ifK (Nat.beq 0 0) fun _ => q (.l id g off 0 off (some cc))) _ = _
      rw [hfc]; rfl
    | false =>
    have hcM := flagB_f hfc
    cases cc with
    | zero =>
      have hx : L.length = 0 := by omega
      have hk0 : k = 0 := by omega
      subst hk0
      refine ⟨.l id g off 0 fin (some 0), .inr ⟨id, g, off, fin, some 0, by simp, by simp; omega, h3, row_hi hc r⟩, .inr ⟨_, _, _, _, _, _, rfl, Nat.le_refl _, fun _ => rfl⟩, fun g0 N => hv_of fun q => ?_⟩
      unfold slHiV
      simp only [vL_l, vI_i, natK_cast, e0, ifK_true]
      rfl
    | succ cc =>
      refine ⟨.l id g off k fin (some (cc + 1)), .inr ⟨id, g, off, fin, some (cc + 1), by rw [htk], by rw [htk]; omega, h3, row_hi hc r⟩, .inr ⟨_, _, _, _, _, _, rfl, by show k ≤ cc + 1; omega, fun h => absurd hcM (Nat.not_lt.2 h)⟩, fun g0 N => hv_of fun q => ?_⟩
      unfold slHiV
      simp only [vL_l, vI_i, natK_cast, e0, ifK_true]
      show boolK (flagB (cc + 1)) _ (fun _ => sliceC n id g off L.length fin (cc + 1) 0 k fun v => q v) = _
      rw [hfc, boolK_false, sliceC_mid hcM (by omega) (by omega)]
      simp
theorem Ss.mid {kd kd' : IntKind} {j k : Nat} (a : Ss n c h v L) (hc : ∀ e, (c e).length = n) (w : SwN n v) (hj : j ≤ k) (hk : k ≤ L.length) : ∃ u, Ss n c h u ((L.take k).drop j) ∧ SwN n u ∧ ∀ (g : H) (N : Nx), H3 P (slBoV n) v (.i kd (j : Int)) (.i kd' (k : Int)) g N = N.go P u g := by
  have e0 : Nat.ble j k = true := by rw [Nat.ble_eq]; omega
  have hkn : k * n ≤ L.length * n := Nat.mul_le_mul_right n hk
  have hjn : j * n + (k - j) * n = k * n := by rw [← Nat.add_mul]; congr 1; omega
  have htk : ((L.take k).drop j).length = k - j := by rw [List.length_drop, List.length_take]; omega
  rcases a with ⟨rfl, rfl⟩ | ⟨id, g, off, fin, cap, rfl, h2, h3, r⟩
  · obtain rfl : k = 0 := by simpa using hk
    obtain rfl : j = 0 := by omega
    exact ⟨.l0, .inl ⟨rfl, by simp⟩, .inl rfl, fun g N => hv_of fun k => rfl⟩
  rcases w with e | ⟨id', g', off', n', fin', cap', e, hw⟩
  · cases e
  cases e
  have hr := row_lo hc (row_hi (k := k) hc r) (k := j)
  cases cap with
  | none =>
    have hw : fin = off + L.length * n := hw
    refine ⟨.l id g (off + j * n) (k - j) (off + k * n) (capS n k L.length), .inr ⟨id, g, off + j * n, off + k * n, capS n k L.length, by rw [htk], by rw [htk]; omega, h3, hr⟩, .inr ⟨_, _, _, _, _, _, rfl, ?_⟩, fun g0 N => hv_of fun q => ?_⟩
    · cases hk0 : k with
      | zero => (cases L.length with | zero => (show _ = _; rw [hk0] at hjn; omega) | succ l => exact ⟨by omega, fun _ => by omega⟩)
      | succ m => (show _ = _; rw [← hk0]; omega)
    have e1 : Nat.ble k L.length = true := by rw [Nat.ble_eq]; exact hk
    have e2 : Nat.beq fin (Nat.add off (Nat.mul L.length n)) = true := by rw [hw]; exact Nat.beq_refl _
    unfold slBoV
    simp only [vL_l, vI_i, natK_cast, e0, ifK_true]
    show sliceN n id g off L.length fin j k q = _
    unfold sliceN
    rw [e1, ifK_true, e2, ifK_true, fN_eq, fN_eq, fN_eq]
    rfl
  | some cc =>
    have hw2 : 18446744073709551616 ≤ cc → L.length = 0 := hw.2
    have hw : L.length ≤ cc := hw.1
    cases hfc : flagB cc with
    | true =>
      have hcc := flagB_t hfc
      have hx := hw2 hcc
      obtain rfl : k = 0 := by omega
      obtain rfl : j = 0 := by omega
      refine ⟨.l id g off 0 off (some cc), .inr ⟨id, g, off, off, some cc, by simp, by simp, h3, ?_⟩, .inr ⟨_, _, _, _, _, _, rfl, Nat.zero_le _, fun _ => rfl⟩, fun g0 N => hv_of fun q => ?_⟩
      · simpa using hr
      unfold slBoV
      simp only [vL_l, vI_i, natK_cast, e0, ifK_true]
      show boolK (flagB cc) (fun _ => ifK (Nat.beq 0 0) fun _ => q (.l id g off 0 off (some cc))) _ = _
      rw [hfc]; rfl
    | false =>
    have hcM := flagB_f hfc
    by_cases hjc : j = cc
    · have hx : k = j := by omega
      refine ⟨.l id g off 0 fin (some 0), .inr ⟨id, g, off, fin, some 0, by rw [htk, hx]; simp, by rw [htk, hx]; simp; omega, h3, ?_⟩, .inr ⟨_, _, _, _, _, _, rfl, Nat.le_refl _, fun _ => rfl⟩, fun g0 N => hv_of fun q => ?_⟩
      · rw [List.drop_eq_nil_of_le (by rw [List.length_take]; omega)]
        exact ⟨fun hne => absurd rfl hne, fun i v hv => by simp at hv⟩
      · unfold slBoV
        simp only [vL_l, vI_i, natK_cast, e0, ifK_true]
        show boolK (flagB cc) _ (fun _ => sliceC n id g off L.length fin cc j k fun v => q v) = _
        rw [hfc, boolK_false]
        have eM : Nat.ble (Nat.succ cc) 18446744073709551616 = true := by rw [Nat.ble_eq]; exact hcM
        have e1 : Nat.ble k cc = true := by rw [Nat.ble_eq]; omega
        unfold sliceC
        rw [eM, ifK_true]
        have e2 : Nat.beq j cc = true := by rw [hjc]; exact Nat.beq_refl _
        rw [e1, ifK_true, e2]; rfl
    · refine ⟨.l id g (off + j * n) (k - j) fin (some (cc - j)), .inr ⟨id, g, off + j * n, fin, some (cc - j), by rw [htk], by rw [htk]; omega, h3, hr⟩, .inr ⟨_, _, _, _, _, _, rfl, by show k - j ≤ cc - j; omega, fun h => absurd hcM (by omega)⟩, fun g0 N => hv_of fun q => ?_⟩
      unfold slBoV
      simp only [vL_l, vI_i, natK_cast, e0, ifK_true]
      show boolK (flagB cc) _ (fun _ => sliceC n id g off L.length fin cc j k fun v => q v) = _
      rw [hfc, boolK_false, sliceC_mid hcM (by omega) (by omega)]
theorem Ss.lo {kd : IntKind} {k : Nat} (a : Ss n c h v L) (hc : ∀ e, (c e).length = n) (w : SwN n v) (hk : k ≤ L.length) : ∃ u, Ss n c h u (L.drop k) ∧ SwN n u ∧ ∀ (g : H) (N : Nx), H2 P (slLoV n) v (.i kd (k : Int)) g N = N.go P u g := by
  have e0 : Nat.ble k L.length = true := by rw [Nat.ble_eq]; omega
  have hkn : k * n + (L.length - k) * n = L.length * n := by rw [← Nat.add_mul]; congr 1; omega
  have htk : (L.drop k).length = L.length - k := List.length_drop
  rcases a with ⟨rfl, rfl⟩ | ⟨id, g, off, fin, cap, rfl, h2, h3, r⟩
  · have : k = 0 := by simpa using hk
    subst this
    exact ⟨.l0, .inl ⟨rfl, by simp⟩, .inl rfl, fun g N => hv_of fun k => rfl⟩
  rcases w with e | ⟨id', g', off', n', fin', cap', e, hw⟩
  · cases e
  cases e
  cases cap with
  | none =>
    have hw : fin = off + L.length * n := hw
    refine ⟨.l id g (off + k * n) (L.length - k) (off + L.length * n) none, .inr ⟨id, g, off + k * n, off + L.length * n, none, by rw [htk], by rw [htk]; omega, h3, row_lo hc r⟩, .inr ⟨_, _, _, _, _, _, rfl, by show off + L.length * n = off + k * n + (L.length - k) * n; omega⟩, fun g0 N => hv_of fun q => ?_⟩
    have e1 : Nat.ble L.length L.length = true := by rw [Nat.ble_eq]; exact Nat.le_refl _
    have e2 : Nat.beq fin (Nat.add off (Nat.mul L.length n)) = true := by rw [hw]; exact Nat.beq_refl _
    unfold slLoV
    simp only [vL_l, vI_i, natK_cast, e0, ifK_true]
    show sliceN n id g off L.length fin k L.length q = _
    unfold sliceN
    rw [e1, ifK_true, e2, ifK_true, fN_eq, fN_eq, fN_eq, capS_self]
    rfl
  | some cc =>
    have hw2 : 18446744073709551616 ≤ cc → L.length = 0 := hw.2
    have hw : L.length ≤ cc := hw.1
    have e1 : Nat.ble L.length cc = true := by rw [Nat.ble_eq]; omega
    cases hfc : flagB cc with
    | true =>
      have hcc := flagB_t hfc
      have hx := hw2 hcc
      have hk0 : k = 0 := by omega
      subst hk0
      refine ⟨.l id g off 0 off (some cc), .inr ⟨id, g, off, off, some cc, by rw [htk, hx], by rw [htk, hx]; simp, h3, ?_⟩, .inr ⟨_, _, _, _, _, _, rfl, Nat.zero_le _, fun _ => rfl⟩, fun g0 N => hv_of fun q => ?_⟩
      · rw [List.drop_eq_nil_of_le (by omega)]
        exact ⟨fun hne => absurd rfl hne, fun i v hv => by simp at hv⟩
      · unfold slLoV
        simp only [vL_l, vI_i, natK_cast, e0, ifK_true]
        show boolK (flagB cc) (fun _ => ifK (Nat.beq L.length 0) fun _ => q (.l id g off 0 off (some cc))) _ = _
        rw [hfc, hx]; rfl
    | false =>
    have hcM := flagB_f hfc
    have eM : Nat.ble (Nat.succ cc) 18446744073709551616 = true := by rw [Nat.ble_eq]; exact hcM
    by_cases hkc : k = cc
    · have hx : L.length = k := by omega
      refine ⟨.l id g off 0 fin (some 0), .inr ⟨id, g, off, fin, some 0, by rw [htk, hx]; simp, by rw [htk, hx]; simp; omega, h3, ?_⟩, .inr ⟨_, _, _, _, _, _, rfl, Nat.le_refl _, fun _ => rfl⟩, fun g0 N => hv_of fun q => ?_⟩
      · rw [List.drop_eq_nil_of_le (by omega)]
        exact ⟨fun hne => absurd rfl hne, fun i v hv => by simp at hv⟩
      · unfold slLoV
        simp only [vL_l, vI_i, natK_cast, e0, ifK_true]
        show boolK (flagB cc) _ (fun _ => sliceC n id g off L.length fin cc k L.length fun v => q v) = _
        rw [hfc, boolK_false]
        unfold sliceC
        rw [eM, ifK_true]
        have e2 : Nat.beq k cc = true := by rw [hkc]; exact Nat.beq_refl _
        rw [e1, ifK_true, e2]; rfl
    · refine ⟨.l id g (off + k * n) (L.length - k) fin (some (cc - k)), .inr ⟨id, g, off + k * n, fin, some (cc - k), by rw [htk], by rw [htk]; omega, h3, row_lo hc r⟩, .inr ⟨_, _, _, _, _, _, rfl, by show L.length - k ≤ cc - k; omega, fun h => absurd hcM (by omega)⟩, fun g0 N => hv_of fun q => ?_⟩
      unfold slLoV
      simp only [vL_l, vI_i, natK_cast, e0, ifK_true]
      show boolK (flagB cc) _ (fun _ => sliceC n id g off L.length fin cc k L.length fun v => q v) = _
      rw [hfc, boolK_false, sliceC_mid hcM (by omega) (by omega)]
/-- the cells that are appended -/
theorem new_ss (a : Ss n c h v L) (hc : ∀ e, (c e).length = n) (hn : 1 ≤ n) (k : Nat → List V → Bool) : newCells n v h k = k L.length (L.flatMap c) := by
  rcases a with ⟨rfl, rfl⟩ | ⟨id, g, off, fin, cap, rfl, hf, hl, r⟩
  · rfl
  · have hlen := fm_len hc L
    cases hm : L.length with
    | zero =>
      have : L = [] := List.eq_nil_of_length_eq_zero hm
      subst this; rfl
    | succ m =>
      rw [hm] at hlen hf
      show loadN h id g off fin (Nat.mul (m + 1) n) (fun vs => k (m + 1) vs) = _
      have hne : L.flatMap c ≠ [] := by
        intro e; rw [e] at hlen
        have h3 : (m + 1) * n = 0 := hlen.symm
        rw [Nat.add_mul] at h3; omega
      rw [show Nat.mul (m + 1) n = (L.flatMap c).length by rw [hlen]; rfl, loadN_row r rfl hne (by rw [hlen]; omega)]
/-- append([]T{e}, l...) -/
theorem AP.lit {id : B} {cs : List V} {el : Nat} (o : Own h id cs) (hcs : cs.length = n) (hn : 1 ≤ n) (hc : ∀ e, (c e).length = n) (a : Ss n c h v L) (hf : B.val h.floor ≤ B.val h.next) (hb : (1 + L.length) * n ≤ 1048576)
    (k0 : L = [] → N.go P (.l id 0 0 1 n (some 1)) h)
    (k1 : ∀ v' h', L ≠ [] → Buf h' el n v' (cs ++ L.flatMap c) → Top h' v' → Stay nowhere h h' → (∀ i, isOf v' i → B.val h.next ≤ B.val i) → N.go P v' h') : AP P el n (.l id 0 0 1 n (some 1)) v h N := by
  have hlen := fm_len hc L
  cases hm : L.length with
  | zero =>
    have : L = [] := List.eq_nil_of_length_eq_zero hm
    subst this
    refine hm_of (v := .l id 0 0 1 n (some 1)) (h' := h) (fun k => ?_) (k0 rfl)
    rw [new_ss a hc hn]; rfl
  | succ m =>
    have hne : L ≠ [] := by intro e; rw [e] at hm; simp at hm
    have hb1 : 1 + L.length ≤ 1048576 := by
      have := Nat.mul_le_mul_left (1 + L.length) hn
      omega
    have hcn : (1 + L.length) * n = n + L.length * n := by rw [Nat.add_mul]; omega
    obtain ⟨h', a1, a2, a3, blk, b1, b2, b3, b4, b5, b6, b7⟩ := alloc_new el (cs ++ L.flatMap c) h (by rw [List.length_append]; omega)
    refine hm_of (v := .l h.next 0 0 (1 + L.length) ((1 + L.length) * n) none) (h' := h') (fun k => ?_) (k1 _ h' hne ?_ ?_ a2 ?_)
    · rw [new_ss a hc hn]
      show boolK (Nat.ble (Nat.add 1 L.length) 1) (fun _ => appIn id 0 0 1 n 1 n L.length (L.flatMap c) h k) (fun _ => appOut el id 0 0 1 n n L.length (L.flatMap c) h k) = _
      have e1 : Nat.ble (Nat.add 1 L.length) 1 = false := by
        cases hx : Nat.ble (Nat.add 1 L.length) 1 with
        | false => rfl
        | true => have := Nat.le_of_ble_eq_true hx; have h2 : 1 + L.length ≤ 1 := this; omega
      rw [e1]
      show appOut el id 0 0 1 n n L.length (L.flatMap c) h k = _
      unfold appOut
      have e2 : Nat.ble (Nat.add 1 L.length) 1048576 = true := by rw [Nat.ble_eq]; exact hb1
      rw [e2, ifK_true, show Nat.mul 1 n = cs.length by rw [hcs]; show 1 * n = n; omega, loadZ_pos (by omega), loadN_row o.row rfl (by intro e; rw [e] at hcs; simp at hcs; omega) (by omega), app_eq, a1, fN_eq, fN_eq]
      rfl
    · refine .inr ⟨h.next, 0, 1 + L.length, blk, by rw [List.length_append, hlen, hcs, ← hcn], by omega, by rw [List.length_append, hlen, hcs, ← hcn], by rw [a2.floor]; exact hf, by omega, b1, ⟨by omega, by omega⟩, b4, b5, b6, b7⟩
    · intro id' g off m' fin cap e
      cases e
      exact ⟨blk, b1, b3⟩
    · rintro i ⟨g, off, m', fin, cap, e⟩
      cases e; exact Nat.le_refl _
end
end Go.Ev

set_option linter.all false
namespace Go.Ev
open Go Go.RowKit Go.WideShapes Go.ChangeShapes Go.ChangeAt Go.Deep
section
variable {H' : Type} {enc : TypeId × Value → H'} {P : Program}
inductive Kd where
  | i (k : IntKind)
  | s
  | b
def Kd.ok (P : Program) (k : Kd) (t : TypeId) : Prop := match k with
  | .i k => P.underlying t = some (.int k)
  | .s => P.underlying t = some .string
  | .b => P.underlying t = some .bool
def FldOk (P : Program) (l : List Field) : Nat → List Kd → Prop
  | _, [] => True
  | n, k :: ks => (∃ f, l[n]? = some f ∧ f.offset = n ∧ P.cellsOf f.type = 1 ∧ k.ok P f.type) ∧ FldOk P l (n + 1) ks
/-- a struct whose fields are numbers, texts, bools -/
structure FlatF (P : Program) (t : TypeId) (fs : Array Field) (ks : List Kd) : Prop where
  ut : P.underlying t = some (.struct fs)
  sz : P.cellsOf t = ks.length
  fld : FldOk P fs.toList 0 ks
def Kd.fit (k : Kd) (c : Value) : Prop := match k with
  | .i k => ∃ n, c = .int k n ∧ (Lit.int k n).wf = true
  | .s => ∃ s : ByteArray, c = .string s ∧ s.size ≤ maxLen
  | .b => ∃ q, c = .bool q
def Fits : List Kd → List Value → Prop
  | [], cs => cs = []
  | k :: ks, cs => ∃ c r, cs = c :: r ∧ k.fit c ∧ Fits ks r
theorem flat_fits {W : World} {t : TypeId} {fs : Array Field} {ks : List Kd} {fuel : Nat} {cs : List Value} {x : DataW H' × List MemPlace} (F : FlatF P t fs ks) (hd : DataW.trod enc P W 0 (fun _ => true) true fuel t cs = some x) : Fits ks cs := by
  have hf : cs.length = ks.length ∧ ∀ (i : Nat) f, fs.toList[i]? = some f → ∃ n y, DataW.trod enc P W 0 (fun _ => true) true n f.type ((cs.drop f.offset).take (P.cellsOf f.type)) = some y := by
    cases fuel with
    | zero => simp [DataW.trod] at hd
    | succ n =>
      unfold DataW.trod at hd
      rw [F.ut] at hd
      simp only at hd
      split at hd
      · rename_i hl
        refine ⟨hl.trans F.sz, fun i f hf => ?_⟩
        rw [Option.map_eq_some_iff] at hd
        obtain ⟨xs, hx, _⟩ := hd
        have := mapM_some_get hx i f hf
        have hlen := mapM_some_length hx
        have hi : i < xs.length := by rw [hlen]; exact (List.getElem?_eq_some_iff.1 hf).1
        exact ⟨n, xs[i], by rw [this]; simp⟩
      · cases hd
  obtain ⟨hl, hf⟩ := hf
  have go : ∀ (ks : List Kd) (n : Nat), FldOk P fs.toList n ks → cs.length = n + ks.length → Fits ks (cs.drop n) := by
    intro ks
    induction ks with
    | nil => intro n _ e; exact List.drop_eq_nil_of_le (by rw [e]; exact Nat.le_refl _)
    | cons k ks ih =>
      rintro n ⟨⟨f, g, o, c, u⟩, hr⟩ e
      have hlt : n < cs.length := by rw [e, List.length_cons]; omega
      have hc : cs.drop n = cs[n] :: cs.drop (n + 1) := List.drop_eq_getElem_cons hlt
      obtain ⟨m, y, h⟩ := hf n f g
      rw [o, c, hc] at h
      refine ⟨cs[n], cs.drop (n + 1), hc, ?_, ih (n + 1) hr (by rw [e, List.length_cons]; omega)⟩
      cases k with
      | i kd =>
        obtain ⟨z, e1, _, z1⟩ := DataW.trod_int u h
        exact ⟨z, (List.cons.inj e1).1, z1⟩
      | s =>
        obtain ⟨z, e1, _, z1⟩ := DataW.trod_string u h
        exact ⟨z, (List.cons.inj e1).1, z1⟩
      | b =>
        obtain ⟨z, e1, _⟩ := DataW.trod_bool u h
        exact ⟨z, (List.cons.inj e1).1⟩
  have := go ks 0 F.fld (by rw [hl, Nat.zero_add])
  rwa [List.drop_zero] at this
theorem absV_int (W : World) (k : IntKind) (n : Int) : absV W (.int k n) = .i k n := by unfold absV; rfl
theorem absV_bool (W : World) (q : Bool) : absV W (.bool q) = .b q := by unfold absV; rfl
/-- a row of structs: c tells a struct's cells -/
theorem rows_of {α : Type} [Inhabited α] {c : α → List V} {n : Nat} {Pr : α → Prop} (hc : ∀ a, (c a).length = n) (hn : 1 ≤ n) {W : World} {h : H} (s : Start W h) (h0 : 0 < W.heap.size) {t e : TypeId} {fuel : Nat} {cs : List Value} {x : DataW H' × List MemPlace}
    (ht : P.underlying t = some (.slice e)) (sz : P.cellsOf e = n) (cell : ∀ (fuel : Nat) (cs : List Value) (x : DataW H' × List MemPlace), DataW.trod enc P W 0 (fun _ => true) true fuel e cs = some x → ∃ a, cs.map (absV W) = c a ∧ Pr a)
    (hd : DataW.trod enc P W 0 (fun _ => true) true fuel t cs = some x) : ∃ sv L, cs = [sv] ∧ Ss n c h (absV W sv) L ∧ L.length ≤ 9223372036854775807 ∧ ∀ a ∈ L, Pr a := by
  rcases open_slice ht hd with ⟨rfl, _⟩ | ⟨a, len, cap, m, nn, D, Pl, rfl, hb, hl, hm, hmm, _, hx⟩
  · exact ⟨_, [], rfl, .inl ⟨rfl, rfl⟩, by simp, fun e he => by cases he⟩
  simp only [if_true] at hmm
  rw [sz] at hx
  have hx' : ∀ i, i < len → ∃ E : α × List Value, E.2.map (absV W) = c E.1 ∧ Pr E.1 ∧ (∀ d y, E.2[d]? = some y → W.cell? ⟨a.block, a.off + i * n + d, none⟩ = some y) ∧ (0 < len → a.spot = none) := by
    intro i hi
    obtain ⟨cs', h1, h2⟩ := hx i (by omega)
    obtain ⟨z, e1, e2⟩ := cell _ _ _ h2
    have hlen' : cs'.length = n := by have := congrArg List.length e1; rwa [List.length_map, hc] at this
    obtain ⟨_, _, h3⟩ := World.cells?_some h1
    refine ⟨(z, cs'), e1, e2, fun d y hy => ?_, fun _ => ?_⟩
    · have hd : d < n := by have : d < cs'.length := (List.getElem?_eq_some_iff.1 hy).1; omega
      have hy : cs'[d]? = some y := hy
      have h4 := h3 d hd
      rw [hy] at h4
      have h5 := cell_add h4
      have e1 : (a.add (i * n)).block = a.block := by unfold Addr.add; split <;> rfl
      have e2 : (a.add (i * n)).off = a.off + i * n := by
        unfold Addr.add; split
        · rename_i hz; rw [hz]; rfl
        · rfl
      rw [e1, e2] at h5
      exact h5
    · obtain ⟨cs0, g1, g2⟩ := hx 0 (by omega)
      obtain ⟨z0, e3, _⟩ := cell _ _ _ g2
      have hl0 : cs0.length = n := by have := congrArg List.length e3; rwa [List.length_map, hc] at this
      obtain ⟨_, _, g3⟩ := World.cells?_some g1
      have g4 := g3 0 (by omega)
      rw [List.getElem?_eq_getElem (by omega)] at g4
      have g5 := World.cell?_spot g4
      unfold Addr.add at g5
      simpa using g5
  haveI : Inhabited (α × List Value) := ⟨(default, [])⟩
  obtain ⟨E, hE⟩ := choose_lt (α := α × List Value) (p := fun i r => r.2.map (absV W) = c r.1 ∧ Pr r.1 ∧ (∀ d y, r.2[d]? = some y → W.cell? ⟨a.block, a.off + i * n + d, none⟩ = some y) ∧ (0 < len → a.spot = none)) hx'
  have hL : ((List.range len).map fun i => (E i).1).length = len := by simp
  refine ⟨_, (List.range len).map fun i => (E i).1, rfl, ?_, by rw [hL]; exact maxLen_le (by omega), fun e he => ?_⟩
  · obtain ⟨b, off, spot⟩ := a
    cases len with
    | zero =>
      have e : absV W (.slice (some ⟨b, off, spot⟩) 0 cap) = .l (nb 0) 0 0 0 0 none := by unfold absV; simp only [if_pos h0]
      rw [e]
      exact .inr ⟨nb 0, 0, 0, 0, none, rfl, by simp, (s.blk 0 h0).1, fun hne => absurd rfl hne, fun i v hv => by simp at hv⟩
    | succ m =>
      have hs' : spot = none := (hE 0 (by omega)).2.2.2 (by omega)
      subst hs'
      have hcell : ∀ i, i < m + 1 → ∀ d y, (E i).2[d]? = some y → b < W.heap.size ∧ off + i * n + d < csz W b ∧ (∃ blk, h.heap.get (nb b) = some blk ∧ blk.min ≤ 0) ∧ Ev.cell h (nb b) 0 (off + i * n + d) = some (absV W y) :=
        fun i hi d y hy => s.cell ((hE i hi).2.2.1 d y hy)
      have hEl : ∀ i, i < m + 1 → (E i).2.length = n := fun i hi => by have := congrArg List.length (hE i hi).1; rwa [List.length_map, hc] at this
      obtain ⟨d1, d2, d3, d4⟩ := hcell m (by omega) (n - 1) _ (List.getElem?_eq_getElem (by rw [hEl m (by omega)]; omega))
      have e : absV W (.slice (some ⟨b, off, none⟩) (m + 1) cap) = .l (nb b) 0 off (m + 1) (csz W b) (some cap) := by unfold absV; simp only [if_pos (⟨d1, hl, Nat.lt_of_le_of_lt hm maxLen_lt⟩ : b < W.heap.size ∧ m + 1 ≤ cap ∧ cap < 18446744073709551616)]
      rw [e]
      have hmul : (m + 1) * n = m * n + n := by rw [Nat.add_mul, Nat.one_mul]
      refine .inr ⟨nb b, 0, off, csz W b, some cap, by rw [hL], by rw [hL, hmul]; omega, (s.blk b d1).1, fun _ => d3, fun j v hv => ?_⟩
      have hj : j < (((List.range (m + 1)).map fun i => (E i).1).flatMap c).length := (List.getElem?_eq_some_iff.1 hv).1
      rw [fm_len hc, hL] at hj
      obtain ⟨i, d, rfl, hd, hi⟩ : ∃ i d, j = i * n + d ∧ d < n ∧ i < m + 1 := ⟨j / n, j % n, by rw [Nat.mul_comm]; exact (Nat.div_add_mod j n).symm, Nat.mod_lt _ (by omega), Nat.div_lt_of_lt_mul (by rw [Nat.mul_comm]; exact hj)⟩
      rw [fm_get hc (by rw [hL]; exact hi) hd] at hv
      have hG : ((List.range (m + 1)).map fun i => (E i).1).getD i default = (E i).1 := by simp [List.getD, hi]
      have hy : (E i).2[d]? = some ((E i).2[d]'(by rw [hEl i hi]; exact hd)) := List.getElem?_eq_getElem _
      generalize (E i).2[d]'(by rw [hEl i hi]; exact hd) = y at hy
      rw [hG, ← (hE i hi).1] at hv
      have : ((E i).2.map (absV W)).getD d .u = absV W y := by simp [List.getD, hy]
      rw [this] at hv
      cases hv
      rw [← Nat.add_assoc]
      exact (hcell i hi d y hy).2.2.2
  · obtain ⟨i, hi, rfl⟩ := List.mem_map.1 he
    rw [List.mem_range] at hi
    exact (hE i hi).2.1
end
end Go.Ev

set_option linter.all false
namespace Go.Ev
open Go
/-- the bytes of a number, the highest first, no 0 ahead -/
def digs (n : Nat) : List UInt8 := if h : n = 0 then [] else digs (n / 256) ++ [UInt8.ofNat (n % 256)]
decreasing_by omega
theorem digs_zero : digs 0 = [] := by rw [digs]; simp
theorem digs_pos {n : Nat} (h : n ≠ 0) : digs n = digs (n / 256) ++ [UInt8.ofNat (n % 256)] := by rw [digs]; simp [h]
theorem digs_len : ∀ (k n : Nat), n < 256 ^ k → (digs n).length ≤ k
  | 0, n, h => by
    have : n = 0 := by simp at h; exact h
    subst this; rw [digs_zero]; simp
  | k + 1, n, h => by
    by_cases hn : n = 0
    · subst hn; rw [digs_zero]; simp
    · rw [digs_pos hn, List.length_append]
      have := digs_len k (n / 256) (by rw [Nat.pow_succ] at h; omega)
      simp; exact this
theorem pk_digs (n : Nat) : pk (digs n) = n := by
  induction n using Nat.strongRecOn with
  | _ n ih =>
    by_cases hn : n = 0
    · subst hn; rw [digs_zero]; rfl
    · rw [digs_pos hn, pk_append, ih (n / 256) (by omega)]
      simp [pk]
      omega
theorem digs_head (n : Nat) : (digs n).head? ≠ some 0 := by
  induction n using Nat.strongRecOn with
  | _ n ih =>
    by_cases hn : n = 0
    · subst hn; rw [digs_zero]; simp
    · rw [digs_pos hn]
      by_cases h2 : n / 256 = 0
      · rw [h2, digs_zero]
        intro h
        have h3 : UInt8.ofNat (n % 256) = 0 := by simpa using h
        have h4 := congrArg UInt8.toNat h3
        simp at h4
        omega
      · have := ih (n / 256) (by omega)
        cases hd : digs (n / 256) with
        | nil =>
          have := pk_digs (n / 256)
          rw [hd] at this
          exact absurd this.symm h2
        | cons c l => rw [hd] at this; simpa using this
theorem pk_cons_pos {c : UInt8} {l : List UInt8} (h : c ≠ 0) : 256 ^ l.length ≤ pk (c :: l) := by
  have : 1 ≤ c.toNat := by
    rcases Nat.eq_zero_or_pos c.toNat with h1 | h1
    · exact absurd (UInt8.toNat_inj.1 h1) h
    · exact h1
  have := Nat.mul_le_mul_right (256 ^ l.length) this
  rw [pk]; omega
/-- digits without a 0 ahead are the digits of their number -/
theorem digs_pk : ∀ (l : List UInt8), l.head? ≠ some 0 → digs (pk l) = l := by
  intro l
  induction hl : l.length using Nat.strongRecOn generalizing l with
  | _ n ih =>
    intro hh
    rcases List.eq_nil_or_concat l with rfl | ⟨r, c, rfl⟩
    · exact digs_zero
    · simp only [List.concat_eq_append] at hl hh ⊢
      have hc : c.toNat < 256 := c.toNat_lt
      have e1 : pk (r ++ [c]) = pk r * 256 + c.toNat := by rw [pk_append]; simp [pk]
      have hne : pk (r ++ [c]) ≠ 0 := by
        cases r with
        | nil =>
          intro h0
          have : c = 0 := UInt8.toNat_inj.1 (by rw [e1] at h0; simp [pk] at h0; exact h0)
          subst this
          simp at hh
        | cons d r =>
          have hd : d ≠ 0 := fun h0 => hh (by rw [h0]; rfl)
          have := pk_cons_pos (l := r) hd
          have hp : 0 < 256 ^ r.length := Nat.pow_pos (by omega)
          omega
      rw [digs_pos hne, e1]
      have e2 : (pk r * 256 + c.toNat) / 256 = pk r := by omega
      have e3 : (pk r * 256 + c.toNat) % 256 = c.toNat := by omega
      rw [e2, e3]
      have hr : r.head? ≠ some 0 := by
        cases r with
        | nil => simp
        | cons d r => simpa using hh
      rw [ih r.length (by rw [← hl]; simp) r rfl hr]
      simp
/-- digits that are no number -/
def badD (l : List UInt8) : Prop := l.head? = some 0 ∨ 9223372036854775808 ≤ pk l
instance (l : List UInt8) : Decidable (badD l) := by unfold badD; exact inferInstance
/-- what reading digits makes -/
def numR (l : List UInt8) : V := if badD l then .tu [.i .i64 0, .b false] else .tu [.i .i64 (pk l : Int), .b true]
theorem numR_bad {l : List UInt8} (h : badD l) : numR l = .tu [.i .i64 0, .b false] := if_pos h
theorem numR_ok {l : List UInt8} (h : ¬ badD l) : numR l = .tu [.i .i64 (pk l : Int), .b true] := if_neg h
/-- a number's cell -/
def numB (n : Nat) : List UInt8 := UInt8.ofNat (digs n).length :: digs n
def textB (l : List UInt8) : List UInt8 := numB l.length ++ l
theorem digs_len8 {n : Nat} (h : n ≤ 9223372036854775807) : (digs n).length ≤ 8 := digs_len 8 n (by omega)
theorem numB_len {n : Nat} (h : n ≤ 9223372036854775807) : (numB n).length ≤ 9 := by
  have := digs_len8 h
  show (digs n).length + 1 ≤ 9
  omega
/-- what stands at the front -/
def takeN : List UInt8 → Int × Int × Int
  | [] => (0, 0, 12)
  | w :: r => if 8 < w.toNat then (0, 0, 10) else if r.length < w.toNat then (0, 0, 12) else
    if (r.take w.toNat).head? = some 0 ∨ 9223372036854775808 ≤ pk (r.take w.toNat) then (0, 0, 10) else (((pk (r.take w.toNat) : Nat) : Int), ((w.toNat + 1 : Nat) : Int), 0)
def takeT (l : List UInt8) : List UInt8 × Int × Int :=
  if (takeN l).2.2 = 0 then
    if ((l.drop (takeN l).2.1.toNat).length : Int) < (takeN l).1 then ([], 0, 12) else ((l.drop (takeN l).2.1.toNat).take (takeN l).1.toNat, (takeN l).2.1 + (takeN l).1, 0)
  else ([], 0, (takeN l).2.2)
theorem takeN_cons (w : UInt8) (r : List UInt8) : takeN (w :: r) = if 8 < w.toNat then (0, 0, 10) else if r.length < w.toNat then (0, 0, 12) else
    if (r.take w.toNat).head? = some 0 ∨ 9223372036854775808 ≤ pk (r.take w.toNat) then (0, 0, 10) else (((pk (r.take w.toNat) : Nat) : Int), ((w.toNat + 1 : Nat) : Int), 0) := rfl
theorem takeN_nil : takeN [] = (0, 0, 12) := rfl
theorem takeN_big {w : UInt8} {r : List UInt8} (h : 8 < w.toNat) : takeN (w :: r) = (0, 0, 10) := by rw [takeN_cons, if_pos h]
theorem takeN_short {w : UInt8} {r : List UInt8} (h : w.toNat ≤ 8) (h1 : r.length < w.toNat) : takeN (w :: r) = (0, 0, 12) := by rw [takeN_cons, if_neg (by omega), if_pos h1]
theorem takeN_bad {w : UInt8} {r : List UInt8} (h : w.toNat ≤ 8) (h1 : w.toNat ≤ r.length) (h2 : (r.take w.toNat).head? = some 0 ∨ 9223372036854775808 ≤ pk (r.take w.toNat)) : takeN (w :: r) = (0, 0, 10) := by
  rw [takeN_cons, if_neg (by omega), if_neg (by omega), if_pos h2]
theorem takeN_ok {w : UInt8} {r : List UInt8} (h : w.toNat ≤ 8) (h1 : w.toNat ≤ r.length) (h2 : ¬ ((r.take w.toNat).head? = some 0 ∨ 9223372036854775808 ≤ pk (r.take w.toNat))) : takeN (w :: r) = (((pk (r.take w.toNat) : Nat) : Int), ((w.toNat + 1 : Nat) : Int), 0) := by
  rw [takeN_cons, if_neg (by omega), if_neg (by omega), if_neg h2]
/-- what it may be -/
theorem takeN_range (l : List UInt8) : (takeN l = (0, 0, 10) ∨ takeN l = (0, 0, 12)) ∨ ∃ n k : Nat, takeN l = ((n : Int), (k : Int), 0) ∧ n ≤ 9223372036854775807 ∧ 1 ≤ k ∧ k ≤ 9 ∧ k ≤ l.length := by
  cases l with
  | nil => exact .inl (.inr rfl)
  | cons w r =>
    by_cases h : 8 < w.toNat
    · exact .inl (.inl (takeN_big h))
    · by_cases h1 : r.length < w.toNat
      · exact .inl (.inr (takeN_short (by omega) h1))
      · by_cases h2 : (r.take w.toNat).head? = some 0 ∨ 9223372036854775808 ≤ pk (r.take w.toNat)
        · exact .inl (.inl (takeN_bad (by omega) (by omega) h2))
        · refine .inr ⟨_, _, takeN_ok (by omega) (by omega) h2, by omega, by omega, by omega, by simp; omega⟩
/-- the value of digits, byte by byte -/
theorem pk_take {l : List UInt8} {i : Nat} (h : i < l.length) : pk (l.take (i + 1)) = pk (l.take i) * 256 + (l.getD i 0).toNat := by
  have e : l.getD i 0 = l[i] := by simp [List.getD, h]
  rw [List.take_succ_eq_append_getElem h, pk_append, e]
  simp [pk]
theorem takeN_numB {n : Nat} (h : n ≤ 9223372036854775807) (more : List UInt8) : takeN (numB n ++ more) = ((n : Int), ((numB n).length : Int), 0) := by
  have hl := digs_len8 h
  have e1 : (UInt8.ofNat (digs n).length).toNat = (digs n).length := by simp; omega
  have e2 : (digs n ++ more).take (digs n).length = digs n := by simp
  have : takeN (numB n ++ more) = (((pk ((digs n ++ more).take (UInt8.ofNat (digs n).length).toNat) : Nat) : Int), (((UInt8.ofNat (digs n).length).toNat + 1 : Nat) : Int), 0) := by
    refine takeN_ok (by omega) (by rw [e1]; simp) ?_
    have e3 : (digs n).append more = digs n ++ more := rfl
    rw [e1, e3, e2, pk_digs]
    rintro (h2 | h2)
    · exact digs_head n h2
    · omega
  rw [this, e1, e2, pk_digs]
  rfl
theorem takeT_textB {l more : List UInt8} (h : l.length ≤ 9223372036854775807) : takeT (textB l ++ more) = (l, ((textB l).length : Int), 0) := by
  have e : takeN (textB l ++ more) = ((l.length : Int), ((numB l.length).length : Int), 0) := by
    unfold textB; rw [List.append_assoc]; exact takeN_numB h _
  unfold takeT
  rw [e]
  simp only [if_true]
  have e2 : (textB l ++ more).drop (((numB l.length).length : Nat) : Int).toNat = l ++ more := by
    rw [Int.toNat_natCast]; unfold textB; rw [List.append_assoc]; simp
  rw [e2, if_neg (by simp; omega)]
  rw [Int.toNat_natCast]
  unfold textB
  simp
/-- cut off bytes lack -/
theorem takeN_cut {n c : Nat} (h : n ≤ 9223372036854775807) (hc : c < (numB n).length) : takeN ((numB n).take c) = (0, 0, 12) := by
  have hl := digs_len8 h
  have e1 : (UInt8.ofNat (digs n).length).toNat = (digs n).length := by simp; omega
  cases c with
  | zero => rfl
  | succ c =>
    have : (numB n).take (c + 1) = UInt8.ofNat (digs n).length :: (digs n).take c := rfl
    rw [this]
    have hc' : c < (digs n).length := by unfold numB at hc; simp at hc; omega
    exact takeN_short (by omega) (by rw [List.length_take, e1]; omega)
/-- three results -/
def tri (a : Int × Int × Int) : V := .tu [.i .i64 a.1, .i .i64 a.2.1, .i .i64 a.2.2]
def triT (a : List UInt8 × Int × Int) : V := .tu [sv a.1, .i .i64 a.2.1, .i .i64 a.2.2]
theorem u8_mod (n : Nat) : UInt8.ofNat (n % 256) = UInt8.ofNat n := UInt8.toNat_inj.1 (by simp)
theorem drop_set1 {α : Type} (xs : List α) (j : Nat) (y : α) (h : j < xs.length) : (xs.set j y).drop j = y :: xs.drop (j + 1) := by
  rw [List.drop_eq_getElem_cons (by rw [List.length_set]; exact h), List.drop_set_of_lt (by omega)]
  simp
end Go.Ev

set_option linter.all false
namespace Go.Ev
open Go
structure Ent where
  key : List UInt8
  seq : Int
  del : Bool
  val : List UInt8
deriving DecidableEq
def entZ : Ent := ⟨[], 0, false, []⟩
instance : Inhabited Ent := ⟨entZ⟩
def entC (e : Ent) : List V := [sv e.key, .i .i64 e.seq, .b e.del, sv e.val]
theorem entC_len (e : Ent) : (entC e).length = 4 := rfl
def Es (h : H) (v : V) (L : List Ent) : Prop := Ss 4 entC h v L
section
variable {P : Program} {h h' g' : H} {N : Nx} {v : V} {L : List Ent} {i d : Nat}
theorem Es.ln (a : Es h v L) : H1 P gLen v g' N = N.go P (.i .i64 (L.length : Int)) g' := Ss.ln a
theorem Es.ix (a : Es h v L) (hi : i < L.length) : IX P 4 v i g' N = N.go P (.p (lid v) (lg v) (loff v + i * 4) (lfin v)) g' := Ss.ix a hi
theorem Es.l0 (a : Es h v L) (hi : i < L.length) : L1 P (lid v) (lg v) (loff v + i * 4) (lfin v) h N = N.go P (sv (L.getD i default).key) h := Ss.ld (d := 0) a entC_len hi (by omega)
theorem Es.l1 (a : Es h v L) (hi : i < L.length) : L1 P (lid v) (lg v) (loff v + i * 4 + 1) (lfin v) h N = N.go P (.i .i64 (L.getD i default).seq) h := Ss.ld (d := 1) a entC_len hi (by omega)
theorem Es.l2 (a : Es h v L) (hi : i < L.length) : L1 P (lid v) (lg v) (loff v + i * 4 + 2) (lfin v) h N = N.go P (.b (L.getD i default).del) h := Ss.ld (d := 2) a entC_len hi (by omega)
theorem Es.l3 (a : Es h v L) (hi : i < L.length) : L1 P (lid v) (lg v) (loff v + i * 4 + 3) (lfin v) h N = N.go P (sv (L.getD i default).val) h := Ss.ld (d := 3) a entC_len hi (by omega)
theorem Es.la (a : Es h v L) (hi : i < L.length) : LN P (lid v) (lg v) (loff v + i * 4) (lfin v) 4 h N = N.go P (.a [sv (L.getD i default).key, .i .i64 (L.getD i default).seq, .b (L.getD i default).del, sv (L.getD i default).val]) h := Ss.ldA a entC_len (by omega) hi
theorem Es.grow (a : Es h v L) (s : Stay nowhere h h') : Es h' v L := Ss.grow a s
end
/-- of a write -/
def isW (key : List UInt8) (del : Bool) (val : List UInt8) : Bool := decide (1 ≤ key.length ∧ key.length ≤ 13 ∧ val.length ≤ 24 ∧ (del = true → val = []))
section
variable {k v : List UInt8} {d : Bool}
theorem isW_lo (h : (k.length : Int) < 1) : isW k d v = false := by unfold isW; rw [decide_eq_false_iff_not]; rintro ⟨a, _⟩; omega
theorem isW_hi (h : 13 < (k.length : Int)) : isW k d v = false := by unfold isW; rw [decide_eq_false_iff_not]; rintro ⟨_, a, _⟩; omega
theorem isW_big (h : 24 < (v.length : Int)) : isW k d v = false := by unfold isW; rw [decide_eq_false_iff_not]; rintro ⟨_, _, a, _⟩; omega
theorem isW_t (h1 : 1 ≤ (k.length : Int)) (h2 : (k.length : Int) ≤ 13) (hd : d = true) : isW k d v = decide (v = []) := by
  subst hd; unfold isW; congr 1
  refine propext ⟨fun h => h.2.2.2 rfl, fun e => ?_⟩
  subst e; exact ⟨by omega, by omega, by simp, fun _ => rfl⟩
theorem isW_f (h1 : 1 ≤ (k.length : Int)) (h2 : (k.length : Int) ≤ 13) (hd : d = false) : isW k d v = decide ((v.length : Int) ≤ 24) := by
  subst hd; unfold isW; congr 1
  exact propext ⟨fun h => by omega, fun e => ⟨by omega, by omega, by omega, fun h => by cases h⟩⟩
end
theorem bl_cons {x y : UInt8} {a b : List UInt8} : Op.bytesLess (x :: a) (y :: b) = true ↔ x.toNat < y.toNat ∨ (x = y ∧ Op.bytesLess a b = true) := by
  simp only [Op.bytesLess, Bool.or_eq_true, Bool.and_eq_true, decide_eq_true_eq, beq_iff_eq, UInt8.lt_iff_toNat_lt]
theorem bl_irr : ∀ l : List UInt8, Op.bytesLess l l = false
  | [] => rfl
  | c :: l => by
    cases h : Op.bytesLess (c :: l) (c :: l) with
    | false => rfl
    | true =>
      rcases bl_cons.1 h with h | ⟨_, h⟩
      · omega
      · rw [bl_irr l] at h; cases h
theorem bl_trans : ∀ {a b c : List UInt8}, Op.bytesLess a b = true → Op.bytesLess b c = true → Op.bytesLess a c = true
  | a, [], c, h, _ => by cases a <;> cases h
  | _, _ :: _, [], _, h => by cases h
  | [], _ :: _, _ :: _, _, _ => rfl
  | x :: a, y :: b, z :: c, h, g => by
    rcases bl_cons.1 h with h1 | ⟨h1, h2⟩ <;> rcases bl_cons.1 g with g1 | ⟨g1, g2⟩
    · exact bl_cons.2 (.inl (by omega))
    · exact bl_cons.2 (.inl (by rw [← g1]; exact h1))
    · exact bl_cons.2 (.inl (by rw [h1]; exact g1))
    · exact bl_cons.2 (.inr ⟨h1.trans g1, bl_trans h2 g2⟩)
theorem bl_asym {a b : List UInt8} (h : Op.bytesLess a b = true) : Op.bytesLess b a = false := by
  cases g : Op.bytesLess b a with
  | false => rfl
  | true => have := bl_trans h g; rw [bl_irr] at this; cases this
theorem bl_total : ∀ {a b : List UInt8}, a ≠ b → Op.bytesLess a b = true ∨ Op.bytesLess b a = true
  | [], [], h => absurd rfl h
  | [], _ :: _, _ => .inl rfl
  | _ :: _, [], _ => .inr rfl
  | x :: a, y :: b, h => by
    by_cases e : x = y
    · subst e
      rcases bl_total (a := a) (b := b) (fun e => h (by rw [e])) with g | g
      · exact .inl (bl_cons.2 (.inr ⟨rfl, g⟩))
      · exact .inr (bl_cons.2 (.inr ⟨rfl, g⟩))
    · have : x.toNat ≠ y.toNat := fun g => e (UInt8.toNat_inj.1 g)
      rcases Nat.lt_or_ge x.toNat y.toNat with g | g
      · exact .inl (bl_cons.2 (.inl g))
      · exact .inr (bl_cons.2 (.inl (by omega)))
section
variable {s k v : List UInt8} {n m j : Nat} {q e : Int}
end
end Go.Ev

set_option linter.all false
namespace Go.Ev
open Go
/-- the sum's two parts, one byte further -/
def adlStep (p : Nat × Nat) (c : UInt8) : Nat × Nat := ((p.1 + c.toNat) % 65521, (p.2 + (p.1 + c.toNat) % 65521) % 65521)
def adlF (p : Nat × Nat) (l : List UInt8) : Nat × Nat := l.foldl adlStep p
def adl (l : List UInt8) : Nat × Nat := adlF (1, 0) l
def sumB (l : List UInt8) : Nat := (adl l).2 * 65536 + (adl l).1
theorem adlF_append (p : Nat × Nat) (a b : List UInt8) : adlF p (a ++ b) = adlF (adlF p a) b := List.foldl_append
theorem adlF_lt {p : Nat × Nat} (h1 : p.1 < 65521) (h2 : p.2 < 65521) : ∀ l, (adlF p l).1 < 65521 ∧ (adlF p l).2 < 65521 := by
  intro l
  induction l generalizing p with
  | nil => exact ⟨h1, h2⟩
  | cons c l ih => exact ih (p := adlStep p c) (Nat.mod_lt _ (by omega)) (Nat.mod_lt _ (by omega))
theorem adl_lt (l : List UInt8) : (adl l).1 < 65521 ∧ (adl l).2 < 65521 := adlF_lt (by decide) (by decide) l
theorem sumB_lt (l : List UInt8) : sumB l < 4294967296 := by
  have := adl_lt l
  unfold sumB; omega
theorem sumB_snoc (l : List UInt8) (c : UInt8) : adl (l ++ [c]) = adlStep (adl l) c := by
  unfold adl; rw [adlF_append]; rfl
/-- four bytes of a number, the highest first -/
def fourB (n : Nat) : List UInt8 := [UInt8.ofNat (n / 16777216), UInt8.ofNat (n / 65536), UInt8.ofNat (n / 256), UInt8.ofNat n]
theorem fourB_len (n : Nat) : (fourB n).length = 4 := rfl
def sealB (l : List UInt8) : List UInt8 := numB l.length ++ fourB (sumB l) ++ l
theorem sealB_len (l : List UInt8) : (sealB l).length = (numB l.length).length + 4 + l.length := by
  unfold sealB; rw [List.length_append, List.length_append, fourB_len]
/-- what is sealed at the front -/
def openB (l : List UInt8) : List UInt8 × Int × Int :=
  if (takeN l).2.2 = 12 then ([], 0, 12) else if (takeN l).2.2 ≠ 0 then ([], 0, 13) else
  if ((l.length : Int) - (takeN l).2.1 < 4 ∨ (l.length : Int) - (takeN l).2.1 - 4 < (takeN l).1) then ([], 0, 12) else
  if fourB (sumB ((l.drop ((takeN l).2.1.toNat + 4)).take (takeN l).1.toNat)) ≠ (l.drop (takeN l).2.1.toNat).take 4 then ([], 0, 13) else
  ((l.drop ((takeN l).2.1.toNat + 4)).take (takeN l).1.toNat, (takeN l).2.1 + 4 + (takeN l).1, 0)
/-- with a number at the front -/
theorem openB_num {l : List UInt8} {n k : Nat} (h : takeN l = ((n : Int), (k : Int), 0)) : openB l = if ((l.length : Int) - k < 4 ∨ (l.length : Int) - k - 4 < n) then ([], 0, 12) else
    if fourB (sumB ((l.drop (k + 4)).take n)) ≠ (l.drop k).take 4 then ([], 0, 13) else ((l.drop (k + 4)).take n, (k : Int) + 4 + n, 0) := by
  unfold openB
  rw [h]
  simp only [Int.toNat_natCast]
  rw [if_neg (by decide), if_neg (by simp)]
theorem openB_seal {l more : List UInt8} (h : l.length ≤ 9223372036854775807) : openB (sealB l ++ more) = (l, ((sealB l).length : Int), 0) := by
  have e : sealB l ++ more = numB l.length ++ (fourB (sumB l) ++ l ++ more) := by unfold sealB; simp
  have ht : takeN (sealB l ++ more) = ((l.length : Int), ((numB l.length).length : Int), 0) := by rw [e]; exact takeN_numB h _
  rw [openB_num ht]
  have hlen : (sealB l ++ more).length = (numB l.length).length + 4 + l.length + more.length := by rw [List.length_append, sealB_len]
  have d1 : (sealB l ++ more).drop (numB l.length).length = fourB (sumB l) ++ l ++ more := by rw [e, List.drop_left]
  have d2 : (sealB l ++ more).drop ((numB l.length).length + 4) = l ++ more := by
    rw [← List.drop_drop, d1]
    show (fourB (sumB l) ++ l ++ more).drop (fourB (sumB l)).length = _
    rw [List.append_assoc, List.drop_left]
  have d3 : (fourB (sumB l) ++ l ++ more).take 4 = fourB (sumB l) := by
    show (fourB (sumB l) ++ l ++ more).take (fourB (sumB l)).length = _
    rw [List.append_assoc, List.take_left]
  rw [if_neg (by omega), d1, d2, d3, List.take_left, if_neg (by simp), sealB_len]
  congr 1
theorem openB_cut {l : List UInt8} {c : Nat} (h : l.length ≤ 9223372036854775807) (hc : c < (sealB l).length) : openB ((sealB l).take c) = ([], 0, 12) := by
  rcases Nat.lt_or_ge c (numB l.length).length with h1 | h1
  · have e : (sealB l).take c = (numB l.length).take c := by unfold sealB; rw [List.append_assoc, List.take_append_of_le_length (by omega)]
    unfold openB
    rw [e, takeN_cut h h1]
    rfl
  · have e : (sealB l).take c = numB l.length ++ (fourB (sumB l) ++ l).take (c - (numB l.length).length) := by
      unfold sealB
      rw [List.append_assoc, List.take_append, List.take_of_length_le (by omega)]
    have ht : takeN ((sealB l).take c) = ((l.length : Int), ((numB l.length).length : Int), 0) := by rw [e]; exact takeN_numB h _
    rw [openB_num ht]
    have hl : ((sealB l).take c).length = c := by rw [List.length_take]; omega
    rw [sealB_len] at hc
    rw [hl, if_pos (by omega)]
end Go.Ev

set_option linter.all false
namespace Go.Ev
open Go
theorem adl_take {l : List UInt8} {i : Nat} (h : i < l.length) : adl (l.take (i + 1)) = adlStep (adl (l.take i)) (l.getD i 0) := by
  rw [← sumB_snoc]
  congr 1
  rw [List.take_succ_eq_append_getElem h]
  simp [List.getD, h]
theorem openB_range (l : List UInt8) : openB l = ([], 0, 12) ∨ openB l = ([], 0, 13) ∨ ∃ (x : List UInt8) (n : Nat), openB l = (x, (n : Int), 0) ∧ 5 ≤ n ∧ n ≤ l.length ∧ x.length + 5 ≤ n := by
  rcases takeN_range l with (hc | hc) | ⟨n, k, hc, h1, h2, h3, h4⟩
  · right; left; unfold openB; rw [hc]; rfl
  · left; unfold openB; rw [hc]; rfl
  · rw [openB_num hc]
    by_cases c1 : ((l.length : Int) - k < 4 ∨ (l.length : Int) - k - 4 < n)
    · rw [if_pos c1]; exact .inl rfl
    · rw [if_neg c1]
      by_cases c2 : fourB (sumB ((l.drop (k + 4)).take n)) ≠ (l.drop k).take 4
      · rw [if_pos c2]; exact .inr (.inl rfl)
      · rw [if_neg c2]
        refine .inr (.inr ⟨_, k + 4 + n, rfl, by omega, by omega, ?_⟩)
        rw [List.length_take]; omega
theorem takeN_inv {l : List UInt8} {n k : Nat} (h : takeN l = ((n : Int), (k : Int), 0)) : l.take k = numB n := by
  cases l with
  | nil => rw [takeN_nil] at h; cases h
  | cons w r =>
    rcases Nat.lt_or_ge 8 w.toNat with h1 | h1
    · rw [takeN_big h1] at h; cases h
    rcases Nat.lt_or_ge r.length w.toNat with h2 | h2
    · rw [takeN_short h1 h2] at h; cases h
    by_cases hb : badD (r.take w.toNat)
    · rw [takeN_bad h1 h2 hb] at h; cases h
    · rw [takeN_ok h1 h2 hb] at h
      injection h with e1 e2
      injection e2 with e2 _
      have e1 : pk (r.take w.toNat) = n := by omega
      have e2 : w.toNat + 1 = k := by omega
      subst e1; subst e2
      unfold numB
      rw [digs_pk _ (fun hh => hb (.inl hh)), List.length_take, Nat.min_eq_left h2]
      simp
/-- what is opened was sealed -/
theorem openB_inv {l x : List UInt8} {n : Nat} (h : openB l = (x, (n : Int), 0)) : ∃ more, l = sealB x ++ more := by
  rcases takeN_range l with (hc | hc) | ⟨m, k, hc, h1, h2, h3, h4⟩
  · unfold openB at h; rw [hc] at h; cases h
  · unfold openB at h; rw [hc] at h; cases h
  · rw [openB_num hc] at h
    by_cases c1 : ((l.length : Int) - k < 4 ∨ (l.length : Int) - k - 4 < m)
    · rw [if_pos c1] at h; cases h
    · rw [if_neg c1] at h
      by_cases c2 : fourB (sumB ((l.drop (k + 4)).take m)) ≠ (l.drop k).take 4
      · rw [if_pos c2] at h; cases h
      · rw [if_neg c2] at h
        have c2 := Decidable.not_not.1 c2
        injection h with e1 e2
        refine ⟨(l.drop (k + 4)).drop m, ?_⟩
        have hx : x.length = m := by rw [← e1, List.length_take, List.length_drop]; omega
        have a1 : l = l.take k ++ ((l.drop k).take 4 ++ ((l.drop (k + 4)).take m ++ (l.drop (k + 4)).drop m)) := by
          rw [List.take_append_drop, ← List.drop_drop, List.take_append_drop, List.take_append_drop]
        rw [takeN_inv hc, ← c2, e1] at a1
        unfold sealB
        rw [hx]
        simpa using a1
end Go.Ev

set_option linter.all false
namespace Go.Ev
open Go
structure Wri where
  key : List UInt8
  del : Bool
  val : List UInt8
deriving DecidableEq
def wriZ : Wri := ⟨[], false, []⟩
instance : Inhabited Wri := ⟨wriZ⟩
def wriC (w : Wri) : List V := [sv w.key, .b w.del, sv w.val]
theorem wriC_len (w : Wri) : (wriC w).length = 3 := rfl
def Ws (h : H) (v : V) (L : List Wri) : Prop := Ss 3 wriC h v L
section
variable {P : Program} {h h' g' : H} {N : Nx} {v : V} {L : List Wri} {i d : Nat}
theorem Ws.ln (a : Ws h v L) : H1 P gLen v g' N = N.go P (.i .i64 (L.length : Int)) g' := Ss.ln a
theorem Ws.ix (a : Ws h v L) (hi : i < L.length) : IX P 3 v i g' N = N.go P (.p (lid v) (lg v) (loff v + i * 3) (lfin v)) g' := Ss.ix a hi
theorem Ws.l0 (a : Ws h v L) (hi : i < L.length) : L1 P (lid v) (lg v) (loff v + i * 3) (lfin v) h N = N.go P (sv (L.getD i default).key) h := Ss.ld (d := 0) a wriC_len hi (by omega)
theorem Ws.l1 (a : Ws h v L) (hi : i < L.length) : L1 P (lid v) (lg v) (loff v + i * 3 + 1) (lfin v) h N = N.go P (.b (L.getD i default).del) h := Ss.ld (d := 1) a wriC_len hi (by omega)
theorem Ws.l2 (a : Ws h v L) (hi : i < L.length) : L1 P (lid v) (lg v) (loff v + i * 3 + 2) (lfin v) h N = N.go P (sv (L.getD i default).val) h := Ss.ld (d := 2) a wriC_len hi (by omega)
theorem Ws.la (a : Ws h v L) (hi : i < L.length) : LN P (lid v) (lg v) (loff v + i * 3) (lfin v) 3 h N = N.go P (.a [sv (L.getD i default).key, .b (L.getD i default).del, sv (L.getD i default).val]) h := Ss.ldA a wriC_len (by omega) hi
theorem Ws.grow (a : Ws h v L) (s : Stay nowhere h h') : Ws h' v L := Ss.grow a s
end
theorem wri_ext {a b : Wri} (h : a.key = b.key ∧ a.del = b.del ∧ a.val = b.val) : a = b := by cases a; cases b; simp at h; simp [h]
theorem take_wri {L : List Wri} {i : Nat} (hi : i < L.length) : L.take (i + 1) = L.take i ++ [L.getD i default] := by
  rw [List.take_succ]; simp [List.getD, hi]
def isR (w : Wri) : Bool := isW w.key w.del w.val
/-- the i-th one is a write, its key above the one ahead -/
def upA (L : List Wri) (j : Nat) : Bool := isR (L.getD j default) && (decide (j = 0) || Op.bytesLess (L.getD (j - 1) default).key (L.getD j default).key)
def upU (L : List Wri) (i : Nat) : Bool := (List.range i).all (upA L)
def isB (L : List Wri) : Bool := upU L L.length && decide (L.length ≤ 8)
theorem upU_succ (L : List Wri) (i : Nat) : upU L (i + 1) = (upU L i && upA L i) := by unfold upU; rw [List.range_succ, List.all_append]; simp
theorem upU_at {L : List Wri} {i : Nat} (h : upU L i = true) {j : Nat} (hj : j < i) : upA L j = true := (List.all_eq_true.1 h) j (List.mem_range.2 hj)
theorem upU_no {L : List Wri} {i : Nat} (hi : i < L.length) (h : upA L i = false) : isB L = false := by
  unfold isB upU
  rw [show ((List.range L.length).all (upA L)) = false from List.all_eq_false.2 ⟨i, List.mem_range.2 hi, by rw [h]; simp⟩]; rfl
theorem isB_len {L : List Wri} (h : isB L = true) : L.length ≤ 8 := by
  unfold isB at h; rw [Bool.and_eq_true] at h; exact of_decide_eq_true h.2
theorem isB_up {L : List Wri} (h : isB L = true) {j : Nat} (hj : j < L.length) : upA L j = true := by
  unfold isB at h; rw [Bool.and_eq_true] at h; exact upU_at h.1 hj
theorem upA_is {L : List Wri} {j : Nat} (h : upA L j = true) : isR (L.getD j default) = true := by unfold upA at h; rw [Bool.and_eq_true] at h; exact h.1
theorem isR_len {w : Wri} (h : isR w = true) : 1 ≤ w.key.length ∧ w.key.length ≤ 13 ∧ w.val.length ≤ 24 ∧ (w.del = true → w.val = []) := by
  unfold isR isW at h; exact of_decide_eq_true h
def oneB (w : Wri) : List UInt8 := textB w.key ++ (if w.del then [1] else 0 :: textB w.val)
def rowsB (L : List Wri) : List UInt8 := numB L.length ++ L.flatMap oneB
def batB (seq : Int) (L : List Wri) : List UInt8 := sealB (numB seq.toNat ++ rowsB L)
def okB12 (seq : Int) (L : List Wri) : Bool := isB L && decide (1 ≤ seq ∧ seq ≤ 1000000)
def bytB (seq : Int) (L : List Wri) : List UInt8 × Int := if okB12 seq L then (batB seq L, 0) else ([], 10)
/-- so many writes at the front -/
def takeWs : Nat → List UInt8 → Option (List Wri × List UInt8)
  | 0, s => some ([], s)
  | n + 1, s =>
    if (takeT s).2.2 ≠ 0 ∨ (takeT s).2.1 = (s.length : Int) then none
    else if s.getD (takeT s).2.1.toNat 0 = 1 then (takeWs n (s.drop ((takeT s).2.1.toNat + 1))).map fun r => (⟨(takeT s).1, true, []⟩ :: r.1, r.2)
    else if (takeT (s.drop ((takeT s).2.1.toNat + 1))).2.2 ≠ 0 then none
    else (takeWs n ((s.drop ((takeT s).2.1.toNat + 1)).drop (takeT (s.drop ((takeT s).2.1.toNat + 1))).2.1.toNat)).map fun r => (⟨(takeT s).1, false, (takeT (s.drop ((takeT s).2.1.toNat + 1))).1⟩ :: r.1, r.2)
def takeR (s : List UInt8) : Option (List Wri) :=
  if (takeN s).2.2 ≠ 0 ∨ 8 < (takeN s).1 then none else (takeWs (takeN s).1.toNat (s.drop (takeN s).2.1.toNat)).map (·.1)
def readR (s : List UInt8) : Int × List Wri × Int × Int :=
  let o := openB s
  if o.2.2 ≠ 0 then (0, [], 0, o.2.2) else
  let q := takeN o.1
  if q.2.2 ≠ 0 then (0, [], 0, 10) else
  match takeR (o.1.drop q.2.1.toNat) with
  | none => (0, [], 0, 10)
  | some l => if (bytB q.1 l).2 = 0 ∧ (bytB q.1 l).1 = s.take o.2.1.toNat then (q.1, l, o.2.1, 0) else (0, [], 0, 10)
def okW (w : Wri) : Bool := decide (w.key.length ≤ 20) && decide (w.val.length ≤ 40)
end Go.Ev

set_option maxRecDepth 1000000
set_option linter.all false
namespace Go.Proofs.Ytmlcddeikgechaa
open Go Go.Ev
noncomputable abbrev s44_0 : CC := (CC.seq (CC.region [(wB 2 (doMove (O.c (V.b Bool.false))))]) CC.ret)
noncomputable abbrev s44_1 : CC := (CC.cond (tm 12) s44_0 CC.skip)
noncomputable abbrev s44_2 : CC := (CC.seq (CC.region [(wB 3 (doFieldAddr 0 (tm 1))), (wB 4 (doLoad (tm 3))), (wB 5 (doLenS (tm 4))), (wB 6 (bin2 fLss (tm 5) (oN 1))), (wB 7 (doMove (tm 6))), (wG 7 false 8 (doFieldAddr 0 (tm 1))), (wG 7 false 9 (doLoad (tm 8))), (wG 7 false 10 (doLenS (tm 9))), (wG 7 false 11 (bin2 fGtr (tm 10) (oN 13))), (wB 12 (doPick (tm 7) (O.c (V.b Bool.true)) (tm 11)))]) s44_1)
noncomputable abbrev s44_3 : CC := (CC.seq (CC.region [(wB 15 (doFieldAddr 2 (tm 1))), (wB 16 (doLoad (tm 15))), (wB 17 (doSCmp eqS (tm 16) (O.c (V.s 0 0)))), (wB 2 (doMove (tm 17)))]) CC.ret)
noncomputable abbrev s44_4 : CC := (CC.cond (tm 14) s44_3 CC.skip)
noncomputable abbrev s44_5 : CC := (CC.seq (CC.region [(wB 13 (doFieldAddr 1 (tm 1))), (wB 14 (doLoad (tm 13)))]) s44_4)
noncomputable abbrev s44_6 : CC := (CC.seq (CC.region [(wB 18 (doFieldAddr 2 (tm 1))), (wB 19 (doLoad (tm 18))), (wB 20 (doLenS (tm 19))), (wB 21 (bin2 fLeq (tm 20) (oN 24))), (wB 2 (doMove (tm 21)))]) CC.ret)
noncomputable abbrev s44_7 : CC := (CC.seq s44_5 s44_6)
noncomputable abbrev s44_8 : CC := (CC.seq s44_2 s44_7)
noncomputable abbrev b44 : CC := (CC.seq (CC.region [(wB 1 (doBox 39 (tm 0))), (wB 2 (doMove (O.c (V.b Bool.false))))]) s44_8)
theorem c44 : compFn Try.prog 44 = ⟨22, b44, [(Rs.tmp (slOf 2))]⟩ := by kernel_rfl
noncomputable abbrev s46_0 : CC := (CC.seq (CC.region [(wB 3 (doFieldAddr 0 (tm 1))), (wB 4 (doLoad (tm 3))), (wB 5 (doLenS (tm 4))), (wB 6 (bin2 fGeq (tm 5) (oN 1))), (wB 7 (doMove (tm 6))), (wG 7 true 8 (doFieldAddr 0 (tm 1))), (wG 7 true 9 (doLoad (tm 8))), (wG 7 true 10 (doLenS (tm 9))), (wG 7 true 11 (bin2 fLeq (tm 10) (oN 13))), (wB 12 (doPick (tm 7) (tm 11) (O.c (V.b Bool.false)))), (wB 13 (doMove (tm 12))), (wG 13 true 14 (doFieldAddr 2 (tm 1))), (wG 13 true 15 (doLoad (tm 14))), (wG 13 true 16 (doLenS (tm 15))), (wG 13 true 17 (bin2 fLeq (tm 16) (oN 24))), (wB 18 (doPick (tm 13) (tm 17) (O.c (V.b Bool.false)))), (wB 19 (doMove (tm 18))), (wG 19 true 20 (doFieldAddr 1 (tm 1))), (wG 19 true 21 (doLoad (tm 20))), (wG 19 true 22 (doNot (tm 21))), (wG 19 true 23 (doMove (tm 22))), (wG 23 false 24 (doFieldAddr 2 (tm 1))), (wG 23 false 25 (doLoad (tm 24))), (wG 23 false 26 (doSCmp eqS (tm 25) (O.c (V.s 0 0)))), (wG 19 true 27 (doPick (tm 23) (O.c (V.b Bool.true)) (tm 26))), (wB 28 (doPick (tm 19) (tm 27) (O.c (V.b Bool.false)))), (wB 2 (doMove (tm 28)))]) CC.ret)
noncomputable abbrev b46 : CC := (CC.seq (CC.region [(wB 1 (doBox 39 (tm 0))), (wB 2 (doMove (O.c (V.b Bool.false))))]) s46_0)
theorem c46 : compFn Try.prog 46 = ⟨29, b46, [(Rs.tmp (slOf 2))]⟩ := by kernel_rfl
end Go.Proofs.Ytmlcddeikgechaa

set_option maxRecDepth 1000000
set_option linter.all false
namespace Go.Proofs.Ytmlcddeikgechaa
open Go Go.Ev
noncomputable abbrev s18_0 : CC := (CC.cond (tm 7) CC.skip (CC.exit 0))
noncomputable abbrev s18_1 : CC := (CC.seq (CC.region [(wB 6 (doMove (tm 0))), (wB 7 (bin2 fGtr (tm 6) (oN 0)))]) s18_0)
noncomputable abbrev s18_2 : CC := (CC.region [(wB 12 (doMove (tm 4))), (wB 13 (doMove (tm 0))), (wB 14 (doConv IntKind.u8 (tm 13))), (wB 15 (doIndexAddrArr 9 1 (tm 3) (tm 12))), (CO.mk G.none D.none Bool.true (CR.mk (doStore 1 (tm 15) (tm 14))))])
noncomputable abbrev s18_3 : CC := (CC.seq (CC.region [(wB 10 (doMove (tm 4))), (wB 11 (bin2 fSub (tm 10) (oN 1))), (wB 4 (doMove (tm 11)))]) s18_2)
noncomputable abbrev s18_4 : CC := (CC.block 1 s18_3)
noncomputable abbrev s18_5 : CC := (CC.region [(wB 8 (doMove (tm 0))), (wB 9 (doShift shrF (tm 8) (O.c (V.i IntKind.u64 (Int.ofNat 8))))), (wB 0 (doMove (tm 9)))])
noncomputable abbrev s18_6 : CC := (CC.seq s18_4 s18_5)
noncomputable abbrev l18_0 : CC := (CC.seq s18_1 s18_6)
noncomputable abbrev s18_7 : CC := (CC.loop l18_0)
noncomputable abbrev s18_8 : CC := (CC.block 0 s18_7)
noncomputable abbrev s18_9 : CC := (CC.seq (CC.region [(wB 24 (doMove (tm 4))), (wB 25 (doSliceArr 9 1 (tm 3) (some (tm 24)) none)), (wB 26 (doB2S (tm 25))), (wB 2 (doMove (tm 26)))]) CC.ret)
noncomputable abbrev s18_10 : CC := (CC.seq (CC.region [(wB 20 (doMove (tm 4))), (wB 21 (doMove (tm 5))), (wB 22 (doConv IntKind.u8 (tm 21))), (wB 23 (doIndexAddrArr 9 1 (tm 3) (tm 20))), (CO.mk G.none D.none Bool.true (CR.mk (doStore 1 (tm 23) (tm 22))))]) s18_9)
noncomputable abbrev s18_11 : CC := (CC.seq (CC.region [(wB 18 (doMove (tm 4))), (wB 19 (bin2 fSub (tm 18) (oN 1))), (wB 4 (doMove (tm 19)))]) s18_10)
noncomputable abbrev s18_12 : CC := (CC.seq (CC.region [(wB 16 (doMove (tm 4))), (wB 17 (bin2 fSub (oN 9) (tm 16))), (wB 5 (doMove (tm 17)))]) s18_11)
noncomputable abbrev s18_13 : CC := (CC.seq s18_8 s18_12)
noncomputable abbrev s18_14 : CC := (CC.seq (CC.region [(wB 4 (doMove (oN 9)))]) s18_13)
noncomputable abbrev s18_15 : CC := (CC.seq (CC.region [(wB 3 (doAlloc 64 [(V.i IntKind.u8 (Int.ofNat 0)), (V.i IntKind.u8 (Int.ofNat 0)), (V.i IntKind.u8 (Int.ofNat 0)), (V.i IntKind.u8 (Int.ofNat 0)), (V.i IntKind.u8 (Int.ofNat 0)), (V.i IntKind.u8 (Int.ofNat 0)), (V.i IntKind.u8 (Int.ofNat 0)), (V.i IntKind.u8 (Int.ofNat 0)), (V.i IntKind.u8 (Int.ofNat 0))]))]) s18_14)
noncomputable abbrev b18 : CC := (CC.seq (CC.region [(wB 2 (doMove (O.c (V.s 0 0))))]) s18_15)
theorem c18 : compFn Try.prog 18 = ⟨27, b18, [(Rs.tmp (slOf 2))]⟩ := by kernel_rfl
noncomputable abbrev s41_0 : CC := (CC.seq (CC.region [(wB 2 (doMove (oN 0))), (wB 3 (doMove (oN 0))), (wB 4 (doMove (oN 12)))]) CC.ret)
noncomputable abbrev s41_1 : CC := (CC.cond (tm 10) s41_0 CC.skip)
noncomputable abbrev s41_2 : CC := (CC.seq (CC.region [(wB 9 (doMove (tm 0))), (wB 10 (doSCmp eqS (tm 9) (O.c (V.s 0 0))))]) s41_1)
noncomputable abbrev s41_3 : CC := (CC.seq (CC.region [(wB 2 (doMove (oN 0))), (wB 3 (doMove (oN 0))), (wB 4 (doMove (oN 10)))]) CC.ret)
noncomputable abbrev s41_4 : CC := (CC.cond (tm 15) s41_3 CC.skip)
noncomputable abbrev s41_5 : CC := (CC.seq (CC.region [(wB 14 (doMove (tm 5))), (wB 15 (bin2 fGtr (tm 14) (oN 8)))]) s41_4)
noncomputable abbrev s41_6 : CC := (CC.seq (CC.region [(wB 2 (doMove (oN 0))), (wB 3 (doMove (oN 0))), (wB 4 (doMove (oN 12)))]) CC.ret)
noncomputable abbrev s41_7 : CC := (CC.cond (tm 21) s41_6 CC.skip)
noncomputable abbrev s41_8 : CC := (CC.seq (CC.region [(wB 18 (doMove (tm 6))), (wB 19 (doMove (tm 0))), (wB 20 (doLenS (tm 19))), (wB 21 (bin2 fGtr (tm 18) (tm 20)))]) s41_7)
noncomputable abbrev s41_9 : CC := (CC.seq (CC.region [(wB 2 (doMove (oN 0))), (wB 3 (doMove (oN 0))), (wB 4 (doMove (oN 10)))]) CC.ret)
noncomputable abbrev s41_10 : CC := (CC.cond (tm 30) s41_9 CC.skip)
noncomputable abbrev s41_11 : CC := (CC.seq (CC.region [(wB 29 (doMove (tm 8))), (wB 30 (doNot (tm 29)))]) s41_10)
noncomputable abbrev s41_12 : CC := (CC.seq (CC.region [(wB 31 (doMove (tm 7))), (wB 32 (doMove (tm 6))), (wB 2 (doMove (tm 31))), (wB 3 (doMove (tm 32))), (wB 4 (doMove (oN 0)))]) CC.ret)
noncomputable abbrev s41_13 : CC := (CC.seq s41_11 s41_12)
noncomputable abbrev s41_14 : CC := (CC.seq (CC.region [(wB 23 (doMove (tm 0))), (wB 24 (doMove (tm 6))), (wB 25 (doSSlice (tm 23) (some (oN 1)) (some (tm 24)))), (wB 26 (doCall 52 [(tm 25)])), (wB 22 (doMove (tm 26))), (wB 27 (doExtract 0 (tm 22))), (wB 28 (doExtract 1 (tm 22))), (wB 7 (doMove (tm 27))), (wB 8 (doMove (tm 28)))]) s41_13)
noncomputable abbrev s41_15 : CC := (CC.seq s41_8 s41_14)
noncomputable abbrev s41_16 : CC := (CC.seq (CC.region [(wB 16 (doMove (tm 5))), (wB 17 (bin2 fAdd (oN 1) (tm 16))), (wB 6 (doMove (tm 17)))]) s41_15)
noncomputable abbrev s41_17 : CC := (CC.seq s41_5 s41_16)
noncomputable abbrev s41_18 : CC := (CC.seq (CC.region [(wB 11 (doMove (tm 0))), (wB 12 (doSIndex (tm 11) (oN 0))), (wB 13 (doConv IntKind.i64 (tm 12))), (wB 5 (doMove (tm 13)))]) s41_17)
noncomputable abbrev s41_19 : CC := (CC.seq s41_2 s41_18)
noncomputable abbrev b41 : CC := (CC.seq (CC.region [(wB 2 (doMove (oN 0))), (wB 3 (doMove (oN 0))), (wB 4 (doMove (oN 0)))]) s41_19)
theorem c41 : compFn Try.prog 41 = ⟨33, b41, [(Rs.tmp (slOf 2)), (Rs.tmp (slOf 3)), (Rs.tmp (slOf 4))]⟩ := by kernel_rfl
noncomputable abbrev s52_0 : CC := (CC.cond (tm 10) CC.skip (CC.exit 0))
noncomputable abbrev s52_1 : CC := (CC.seq (CC.region [(wB 7 (doMove (tm 5))), (wB 8 (doMove (tm 0))), (wB 9 (doLenS (tm 8))), (wB 10 (bin2 fLss (tm 7) (tm 9)))]) s52_0)
noncomputable abbrev s52_2 : CC := (CC.cond (tm 22) (CC.exit 0) CC.skip)
noncomputable abbrev s52_3 : CC := (CC.seq (CC.region [(wB 23 (doMove (tm 4))), (wB 24 (bin2 fGtr (tm 23) (oN 36028797018963967))), (wB 22 (doMove (tm 24)))]) s52_2)
noncomputable abbrev s52_4 : CC := (CC.cond (tm 15) (CC.exit 0) s52_3)
noncomputable abbrev s52_5 : CC := (CC.seq (CC.region [(wB 16 (doMove (tm 5))), (wB 17 (bin2 fEql (tm 16) (oN 0))), (wB 18 (doMove (tm 17))), (wG 18 true 19 (doMove (tm 6))), (wG 18 true 20 (bin2 fEql (tm 19) (oN 0))), (wB 21 (doPick (tm 18) (tm 20) (O.c (V.b Bool.false)))), (wB 15 (doMove (tm 21)))]) s52_4)
noncomputable abbrev s52_6 : CC := (CC.block 2 s52_5)
noncomputable abbrev s52_7 : CC := (CC.region [(wB 29 (doMove (tm 5))), (wB 30 (bin2 fAdd (tm 29) (oN 1))), (wB 5 (doMove (tm 30)))])
noncomputable abbrev s52_8 : CC := (CC.seq (CC.region [(wB 25 (doMove (tm 4))), (wB 26 (doShift shlF (tm 25) (O.c (V.i IntKind.u64 (Int.ofNat 8))))), (wB 27 (doMove (tm 6))), (wB 28 (bin2 fOr (tm 26) (tm 27))), (wB 4 (doMove (tm 28)))]) s52_7)
noncomputable abbrev s52_9 : CC := (CC.seq s52_6 s52_8)
noncomputable abbrev s52_10 : CC := (CC.seq (CC.region [(wB 11 (doMove (tm 0))), (wB 12 (doMove (tm 5))), (wB 13 (doSIndex (tm 11) (tm 12))), (wB 14 (doConv IntKind.i64 (tm 13))), (wB 6 (doMove (tm 14)))]) s52_9)
noncomputable abbrev s52_11 : CC := (CC.block 1 s52_10)
noncomputable abbrev l52_0 : CC := (CC.seq s52_1 s52_11)
noncomputable abbrev s52_12 : CC := (CC.loop l52_0)
noncomputable abbrev s52_13 : CC := (CC.block 0 s52_12)
noncomputable abbrev s52_14 : CC := (CC.seq (CC.region [(wB 2 (doMove (oN 0))), (wB 3 (doMove (O.c (V.b Bool.false))))]) CC.ret)
noncomputable abbrev s52_15 : CC := (CC.cond (tm 34) s52_14 CC.skip)
noncomputable abbrev s52_16 : CC := (CC.seq (CC.region [(wB 31 (doMove (tm 5))), (wB 32 (doMove (tm 0))), (wB 33 (doLenS (tm 32))), (wB 34 (bin2 fLss (tm 31) (tm 33)))]) s52_15)
noncomputable abbrev s52_17 : CC := (CC.seq (CC.region [(wB 35 (doMove (tm 4))), (wB 2 (doMove (tm 35))), (wB 3 (doMove (O.c (V.b Bool.true))))]) CC.ret)
noncomputable abbrev s52_18 : CC := (CC.seq s52_16 s52_17)
noncomputable abbrev s52_19 : CC := (CC.seq s52_13 s52_18)
noncomputable abbrev s52_20 : CC := (CC.seq CC.skip s52_19)
noncomputable abbrev s52_21 : CC := (CC.seq (CC.region [(wB 4 (doMove (oN 0))), (wB 5 (doMove (oN 0)))]) s52_20)
noncomputable abbrev b52 : CC := (CC.seq (CC.region [(wB 2 (doMove (oN 0))), (wB 3 (doMove (O.c (V.b Bool.false))))]) s52_21)
theorem c52 : compFn Try.prog 52 = ⟨36, b52, [(Rs.tmp (slOf 2)), (Rs.tmp (slOf 3))]⟩ := by kernel_rfl
noncomputable abbrev s55_0 : CC := (CC.seq (CC.region [(wB 3 (doMove (tm 0))), (wB 4 (doLenS (tm 3))), (wB 5 (doCall 18 [(tm 4)])), (wB 6 (doMove (tm 0))), (wB 7 (doConcat (tm 5) (tm 6))), (wB 2 (doMove (tm 7)))]) CC.ret)
noncomputable abbrev b55 : CC := (CC.seq (CC.region [(wB 2 (doMove (O.c (V.s 0 0))))]) s55_0)
theorem c55 : compFn Try.prog 55 = ⟨8, b55, [(Rs.tmp (slOf 2))]⟩ := by kernel_rfl
noncomputable abbrev s60_0 : CC := (CC.seq (CC.region [(wB 17 (doMove (tm 7))), (wB 2 (doMove (O.c (V.s 0 0)))), (wB 3 (doMove (oN 0))), (wB 4 (doMove (tm 17)))]) CC.ret)
noncomputable abbrev s60_1 : CC := (CC.cond (tm 16) s60_0 CC.skip)
noncomputable abbrev s60_2 : CC := (CC.seq (CC.region [(wB 15 (doMove (tm 7))), (wB 16 (bin2 fNeq (tm 15) (oN 0)))]) s60_1)
noncomputable abbrev s60_3 : CC := (CC.seq (CC.region [(wB 2 (doMove (O.c (V.s 0 0)))), (wB 3 (doMove (oN 0))), (wB 4 (doMove (oN 12)))]) CC.ret)
noncomputable abbrev s60_4 : CC := (CC.cond (tm 24) s60_3 CC.skip)
noncomputable abbrev s60_5 : CC := (CC.seq (CC.region [(wB 21 (doMove (tm 5))), (wB 22 (doMove (tm 8))), (wB 23 (doLenS (tm 22))), (wB 24 (bin2 fGtr (tm 21) (tm 23)))]) s60_4)
noncomputable abbrev s60_6 : CC := (CC.seq (CC.region [(wB 25 (doMove (tm 8))), (wB 26 (doMove (tm 5))), (wB 27 (doSSlice (tm 25) none (some (tm 26)))), (wB 28 (doMove (tm 6))), (wB 29 (doMove (tm 5))), (wB 30 (bin2 fAdd (tm 28) (tm 29))), (wB 2 (doMove (tm 27))), (wB 3 (doMove (tm 30))), (wB 4 (doMove (oN 0)))]) CC.ret)
noncomputable abbrev s60_7 : CC := (CC.seq s60_5 s60_6)
noncomputable abbrev s60_8 : CC := (CC.seq (CC.region [(wB 18 (doMove (tm 0))), (wB 19 (doMove (tm 6))), (wB 20 (doSSlice (tm 18) (some (tm 19)) none)), (wB 8 (doMove (tm 20)))]) s60_7)
noncomputable abbrev s60_9 : CC := (CC.seq s60_2 s60_8)
noncomputable abbrev s60_10 : CC := (CC.seq (CC.region [(wB 10 (doMove (tm 0))), (wB 11 (doCall 41 [(tm 10)])), (wB 9 (doMove (tm 11))), (wB 12 (doExtract 0 (tm 9))), (wB 13 (doExtract 1 (tm 9))), (wB 14 (doExtract 2 (tm 9))), (wB 5 (doMove (tm 12))), (wB 6 (doMove (tm 13))), (wB 7 (doMove (tm 14)))]) s60_9)
noncomputable abbrev b60 : CC := (CC.seq (CC.region [(wB 2 (doMove (O.c (V.s 0 0)))), (wB 3 (doMove (oN 0))), (wB 4 (doMove (oN 0)))]) s60_10)
theorem c60 : compFn Try.prog 60 = ⟨31, b60, [(Rs.tmp (slOf 2)), (Rs.tmp (slOf 3)), (Rs.tmp (slOf 4))]⟩ := by kernel_rfl
end Go.Proofs.Ytmlcddeikgechaa

namespace Go.Proofs.Ytmlcddeikgechaa
open Go Go.Ev
theorem hmix : Try.prog.follows .mixedOrders = true := by kernel_rfl
open Go.Ev in
instance {nt : Nat} {t : F} {h : H} {K : X → F → H → Prop} {l : List CO} {ch : Option (List Nat × List (Nat × List Nat))} : St (Ok Try.prog nt (.draws l ch) t h K) (DO Try.prog l t h (K .normal)) := ⟨Ok.dw hmix⟩
end Go.Proofs.Ytmlcddeikgechaa

set_option maxRecDepth 100000
set_option maxHeartbeats 8000000
set_option linter.all false
namespace Go.Proofs.Ytmlcddeikgechaa
open Go Go.Ev
theorem or_add {n d : Nat} (h : d < 256) : n * 2 ^ 8 ||| d = n * 256 + d := by
  have := Nat.two_pow_add_eq_or_of_lt (i := 8) (b := d) (by omega) n
  rw [Nat.mul_comm n, ← this]
theorem pk_ge (l : List UInt8) (i : Nat) (h : i ≤ l.length) : pk (l.take i) * 256 ^ (l.length - i) ≤ pk l := by
  have e := pk_append (l.take i) (l.drop i)
  rw [List.take_append_drop, List.length_drop] at e
  omega
theorem pk_bad {l : List UInt8} {i : Nat} (h8 : l.length ≤ 8) (hi : i < l.length) (h : 36028797018963967 < pk (l.take i)) : 9223372036854775808 ≤ pk l := by
  have h1 := pk_ge l i (by omega)
  have h2 : 256 ≤ 256 ^ (l.length - i) := by
    have := Nat.pow_le_pow_right (n := 256) (by omega) (show 1 ≤ l.length - i by omega)
    simpa using this
  have h3 := Nat.mul_le_mul (show 36028797018963968 ≤ pk (l.take i) by omega) h2
  omega
theorem head_zero {l : List UInt8} (h : (l.getD 0 0).toNat = 0) (h0 : 0 < l.length) : l.head? = some 0 := by
  cases l with
  | nil => simp at h0
  | cons c r => have : c = 0 := UInt8.toNat_inj.1 h
                rw [this]; rfl
theorem head_pos {l : List UInt8} (h : ¬ (l.getD 0 0).toNat = 0) : l.head? ≠ some 0 := by
  cases l with
  | nil => simp
  | cons c r => intro h0; have : c = 0 := by simpa using h0
                subst this; exact h rfl
theorem number_ok {h : H} {l : List UInt8} (h8 : l.length ≤ 8) : FnOk Try.prog 52 [sv l] h fun y h' => y = numR l ∧ h' = h := by
  refine fn_go c52 (by intro hb; cases hb) (by simp) (by simp) fun Q hQ => ?_
  simp only [slotsF, Nat.reduceAdd]
  repeat' (first
    | refine St.h ?_
    | simp (disch := first | omega | (simp only [lnv]; omega)) only [wlk, ↓get_put', ↓reduceIte, seval]
    | (with_reducible (first | apply cd_split | apply gd_split)) <;> (intro hc; (try simp only [hcn] at hc); (try simp only [hc]); (try simp only [hcl] at hc); try omega))
  refine Ok.lp (fun m t g => ∃ i : Nat, i ≤ l.length ∧ m = l.length - i ∧ g = h ∧ get 0 t = sv l ∧ get 4 t = .i .i64 ((pk (l.take i) : Nat) : Int) ∧ get 5 t = .i .i64 (i : Int) ∧ (0 < i → l.head? ≠ some 0) ∧ pk (l.take i) ≤ 9223372036854775807) l.length ?_ ?_
  · simp (disch := first | omega | (simp only [lnv]; omega)) only [wlk, ↓get_put', ↓reduceIte, seval]
    exact ⟨0, by omega, rfl, trivial, trivial, rfl, rfl, fun h => absurd h (by omega), by simp [pk]⟩
  · rintro I hI m t g ⟨i, hi', rfl, rfl, f0, f4, f5, hF, hV⟩
    have hgd := (l.getD i 0).toNat_lt
    repeat' (first
      | refine St.h ?_
      | simp (disch := first | omega | (simp only [lnv]; omega)) only [wlk, ↓get_put', ↓reduceIte, seval, *]
      | (with_reducible (first | apply cd_split | apply gd_split)) <;> (intro hc; (try simp only [hcn] at hc); (try simp only [hc]); (try simp only [hcl] at hc); try omega))
    · obtain rfl : i = 0 := by omega
      exact ⟨(numR_bad (.inl (head_zero (by omega) (by omega)))).symm, trivial⟩
    · exact ⟨(numR_bad (.inr (pk_bad h8 (by omega) (by omega : 36028797018963967 < pk (l.take i))))).symm, trivial⟩
    · obtain rfl : i = 0 := by omega
      have n1 : ((pk (l.take 0) : Int) * 256).toNat ||| (l.getD 0 0).toNat = pk (l.take 1) := by
        rw [show ((pk (l.take 0) : Int) * 256).toNat = pk (l.take 0) * 2 ^ 8 by omega, or_add (by omega), pk_take (by omega)]
      have n2 : pk (l.take 1) ≤ 9223372036854775807 := by rw [pk_take (by omega)]; omega
      refine lp_next hI (l.length - (0 + 1)) (by omega) ⟨0 + 1, by omega, rfl, rfl, ?_, ?_, ?_, fun _ => head_pos (by omega), n2⟩
      · simp (disch := first | omega | (simp only [lnv]; omega)) only [wlk, ↓get_put', ↓reduceIte, seval, *]
      · simp (disch := first | omega | (simp only [lnv]; omega)) only [wlk, ↓get_put', ↓reduceIte, seval, *]
      · simp (disch := first | omega | (simp only [lnv]; omega)) only [wlk, ↓get_put', ↓reduceIte, seval, *]
    · exact ⟨(numR_bad (.inr (pk_bad h8 (by omega) (by omega : 36028797018963967 < pk (l.take i))))).symm, trivial⟩
    · have n1 : ((pk (l.take i) : Int) * 256).toNat ||| (l.getD i 0).toNat = pk (l.take (i + 1)) := by
        rw [show ((pk (l.take i) : Int) * 256).toNat = pk (l.take i) * 2 ^ 8 by omega, or_add (by omega), pk_take (by omega)]
      have n2 : pk (l.take (i + 1)) ≤ 9223372036854775807 := by rw [pk_take (by omega)]; omega
      refine lp_next hI (l.length - (i + 1)) (by omega) ⟨i + 1, by omega, rfl, rfl, ?_, ?_, ?_, fun _ => hF (by omega), n2⟩
      · simp (disch := first | omega | (simp only [lnv]; omega)) only [wlk, ↓get_put', ↓reduceIte, seval, *]
      · simp (disch := first | omega | (simp only [lnv]; omega)) only [wlk, ↓get_put', ↓reduceIte, seval, *]
      · simp (disch := first | omega | (simp only [lnv]; omega)) only [wlk, ↓get_put', ↓reduceIte, seval, *]; rfl
    · have : i = l.length := by omega
      subst this
      rw [List.take_length] at *
      refine ⟨(numR_ok ?_).symm, trivial⟩
      rintro (h1 | h1)
      · cases l with
        | nil => cases h1
        | cons c r => exact hF (by simp) h1
      · omega
theorem takeNum_ok {h : H} {l : List UInt8} (hl : l.length ≤ 1000000) : FnOk Try.prog 41 [sv l] h fun y h' => y = tri (takeN l) ∧ h' = h := by
  refine fn_go c41 (by intro hb; cases hb) (by simp) (by simp) fun Q hQ => ?_
  simp only [slotsF, Nat.reduceAdd]
  cases l with
  | nil =>
    repeat' (first
      | refine St.h ?_
      | simp (disch := first | omega | (simp only [lnv]; omega)) only [wlk, ↓get_put', ↓reduceIte, seval, *]
      | (with_reducible (first | apply cd_split | apply gd_split)) <;> (intro hc; (try simp only [hcn] at hc); (try simp only [hc]); (try simp only [hcl] at hc); try omega))
    exact ⟨rfl, trivial⟩
  | cons w r =>
  have hlen : (w :: r).length = r.length + 1 := rfl
  have hw := w.toNat_lt
  have hgd : (w :: r).getD 0 0 = w := rfl
  have d0 : (w :: r = []) = False := by simp
  repeat' (first
    | refine St.h ?_
    | simp (disch := first | omega | (simp only [lnv]; omega)) only [wlk, ↓get_put', ↓reduceIte, seval, *]
    | (with_reducible (first | apply cd_split | apply gd_split)) <;> (intro hc; (try simp only [hcn] at hc); (try simp only [hc]); (try simp only [hcl] at hc); try omega))
  · exact ⟨by rw [takeN_big (by omega)]; rfl, trivial⟩
  · exact ⟨by rw [takeN_short (by omega) (by omega)]; rfl, trivial⟩
  have hsl : ((w :: r).take (1 + (w.toNat : Int)).toNat).drop 1 = r.take w.toNat := by
    rw [show (1 + (w.toNat : Int)).toNat = w.toNat + 1 by omega]; simp
  rw [hsl]
  refine CL.mk (number_ok (by rw [List.length_take]; omega)) ?_
  rintro _ _ ⟨rfl, rfl⟩
  by_cases hb : badD (r.take w.toNat)
  · rw [numR_bad hb]
    repeat' (first
      | refine St.h ?_
      | simp (disch := first | omega | (simp only [lnv]; omega)) only [wlk, ↓get_put', ↓reduceIte, seval, *]
      | (with_reducible (first | apply cd_split | apply gd_split)) <;> (intro hc; (try simp only [hcn] at hc); (try simp only [hc]); (try simp only [hcl] at hc); try omega))
    exact ⟨by rw [takeN_bad (by omega) (by omega) hb]; rfl, trivial⟩
  · rw [numR_ok hb]
    repeat' (first
      | refine St.h ?_
      | simp (disch := first | omega | (simp only [lnv]; omega)) only [wlk, ↓get_put', ↓reduceIte, seval, *]
      | (with_reducible (first | apply cd_split | apply gd_split)) <;> (intro hc; (try simp only [hcn] at hc); (try simp only [hc]); (try simp only [hcl] at hc); try omega))
    refine ⟨?_, trivial⟩
    rw [takeN_ok (by omega) (by omega) hb, show (1 : Int) + (w.toNat : Int) = ((w.toNat + 1 : Nat) : Int) by omega]; rfl
theorem num_ok {h : H} {n : Int} (hn : n ≤ 9223372036854775807) (hf : B.val h.floor ≤ B.val h.next) : FnOk Try.prog 18 [.i .i64 n] h fun y h' => y = sv (numB n.toNat) ∧ Stay nowhere h h' := by
  refine fn_go c18 (by intro hb; cases hb) (by simp) (by simp) fun Q hQ => ?_
  simp only [slotsF, Nat.reduceAdd]
  have hN : n.toNat ≤ 9223372036854775807 := by omega
  have h8 := digs_len8 hN
  repeat' (first
    | refine St.h ?_
    | simp (disch := first | omega | (simp only [lnv]; omega)) only [wlk, ↓get_put', ↓reduceIte, seval]
    | (with_reducible (first | apply cd_split | apply gd_split)) <;> (intro hc; (try simp only [hcn] at hc); (try simp only [hc]); (try simp only [hcl] at hc); try omega))
  refine AL.own (by simp) hf fun h1 s1 n1 o1 => ?_
  repeat' (first
    | refine St.h ?_
    | simp (disch := first | omega | (simp only [lnv]; omega)) only [wlk, ↓get_put', ↓reduceIte, seval, List.length_cons, List.length_nil]
    | (with_reducible (first | apply cd_split | apply gd_split)) <;> (intro hc; (try simp only [hcn] at hc); (try simp only [hc]); (try simp only [hcl] at hc); try omega))
  refine Ok.lp (fun m t g => ∃ (z : Int) (d : List UInt8) (xs : List V), m = z.toNat ∧ z.toNat ≤ 9223372036854775807 ∧ digs z.toNat ++ d = digs n.toNat ∧ get 0 t = .i .i64 z ∧ get 3 t = .p h.next 0 0 9 ∧ get 4 t = .i .i64 ((9 - d.length : Nat) : Int) ∧ Ev.Own g h.next xs ∧ xs.length = 9 ∧ xs.drop (9 - d.length) = d.map bv ∧ Stay nowhere h g) n.toNat ?_ ?_
  · simp (disch := first | omega | (simp only [lnv]; omega)) only [wlk, ↓get_put', ↓reduceIte, seval]
    refine ⟨n, [], _, rfl, hN, by simp, rfl, trivial, rfl, o1, rfl, rfl, s1⟩
  rintro I hI m t g ⟨z, d, xs, rfl, hz, hD, f0, f3, f4, o, hx, hxd, st⟩
  have hdl : (digs z.toNat).length + d.length ≤ 8 := by rw [← List.length_append, hD]; exact h8
  have ea2 : (((9 - d.length : Nat) : Int) - 1) = ((8 - d.length : Nat) : Int) := by omega
  have ew : (9 : Int) - ((9 - d.length : Nat) : Int) = (d.length : Int) := by omega
  repeat' (first
    | refine St.h ?_
    | simp (disch := first | omega | (simp only [lnv]; omega)) only [wlk, ↓get_put', ↓reduceIte, seval, f0, f3, f4, hQ, ea2, ew, wrap_u8m]
    | (with_reducible (first | apply cd_split | apply gd_split)) <;> (intro hc; (try simp only [hcn] at hc); (try simp only [hc]); (try simp only [hcl] at hc); try omega))
  · obtain ⟨c, rfl⟩ := Int.eq_ofNat_of_zero_le (by omega : 0 ≤ z)
    rw [Int.toNat_natCast] at hD hdl hz
    have hc0 : c ≠ 0 := by omega
    have hdp := digs_pos hc0
    have hd1 : (digs c).length = (digs (c / 256)).length + 1 := by rw [hdp]; simp
    refine ST.own (y := bv (UInt8.ofNat (c % 256))) o (by rw [← bv_ofNat]; simp; rfl) rfl (by omega) (by omega) fun g' o' s' => ?_
    repeat' (first
      | refine St.h ?_
      | simp (disch := first | omega | (simp only [lnv]; omega)) only [wlk, ↓get_put', ↓reduceIte, seval, f0, f3, f4, ea2]
      | (with_reducible (first | apply cd_split | apply gd_split)) <;> (intro hc; (try simp only [hcn] at hc); (try simp only [hc]); (try simp only [hcl] at hc); try omega))
    have hdrop : (xs.set (8 - d.length) (bv (UInt8.ofNat (c % 256)))).drop (9 - (UInt8.ofNat (c % 256) :: d).length) = (UInt8.ofNat (c % 256) :: d).map bv := by
      rw [show 9 - (UInt8.ofNat (c % 256) :: d).length = 8 - d.length by simp only [List.length_cons]; omega, drop_set1 _ _ _ (by omega), show 8 - d.length + 1 = 9 - d.length by omega, hxd]; rfl
    refine lp_next hI (c / 256) (by omega) ⟨((c / 256 : Nat) : Int), UInt8.ofNat (c % 256) :: d, _, by rw [Int.toNat_natCast], by rw [Int.toNat_natCast]; omega, ?_, ?_, ?_, ?_, o', by rw [List.length_set]; exact hx, hdrop, st.past' s' fun i hi => by rw [hi]; exact Nat.le_refl _⟩
    · rw [Int.toNat_natCast, ← hD, hdp]; simp
    · simp (disch := first | omega | (simp only [lnv]; omega)) only [wlk, ↓get_put', ↓reduceIte, seval]; rfl
    · simp (disch := first | omega | (simp only [lnv]; omega)) only [wlk, ↓get_put', ↓reduceIte, seval, f3]
    · simp (disch := first | omega | (simp only [lnv]; omega)) only [wlk, ↓get_put', ↓reduceIte, seval]
      congr 1; simp only [List.length_cons]; omega
  · have hz0 : z.toNat = 0 := by omega
    rw [hz0, digs_zero, List.nil_append] at hD
    refine ST.own (y := bv (UInt8.ofNat d.length)) o (by rw [← bv_ofNat, Nat.mod_eq_of_lt (by omega)]; rfl) rfl (by omega) (by omega) fun g' o' s' => ?_
    have hlen : (xs.set (8 - d.length) (bv (UInt8.ofNat d.length))).length = 9 := by rw [List.length_set]; exact hx
    have hdrop : (xs.set (8 - d.length) (bv (UInt8.ofNat d.length))).drop (8 - d.length) = (UInt8.ofNat d.length :: d).map bv := by
      rw [drop_set1 _ _ _ (by omega), show 8 - d.length + 1 = 9 - d.length by omega, hxd]; rfl
    have hL := o'.back (a := 8 - d.length) (fin := 9) (by omega) (by omega) (some (9 - (8 - d.length)))
    rw [hdrop, hlen] at hL
    repeat' (first
      | refine St.h ?_
      | simp (disch := first | omega | (simp only [lnv]; omega)) only [wlk, ↓get_put', ↓reduceIte, seval, f0, f3, f4, hL.bs (by simp)]
      | (with_reducible (first | apply cd_split | apply gd_split)) <;> (intro hc; (try simp only [hcn] at hc); (try simp only [hc]); (try simp only [hcl] at hc); try omega))
    subst hQ
    exact ⟨by unfold numB; rw [← hD], st.past' s' fun i hi => by rw [hi]; exact Nat.le_refl _⟩
end Go.Proofs.Ytmlcddeikgechaa

set_option maxRecDepth 100000
set_option maxHeartbeats 8000000
set_option linter.all false
namespace Go.Proofs.Ytmlcddeikgechaa
open Go Go.Ev
theorem text_ok {h : H} {l : List UInt8} (hl : l.length ≤ 1000000) (hf : B.val h.floor ≤ B.val h.next) : FnOk Try.prog 55 [sv l] h fun y h' => y = sv (textB l) ∧ Stay nowhere h h' := by
  refine fn_go c55 (by intro hb; cases hb) (by simp) (by simp) fun Q hQ => ?_
  simp only [slotsF, Nat.reduceAdd]
  have h9 := numB_len (n := l.length) (by omega)
  repeat' (first
    | refine St.h ?_
    | simp (disch := first | omega | (simp only [lnv]; omega)) only [wlk, ↓get_put', ↓reduceIte, seval]
    | (with_reducible (first | apply cd_split | apply gd_split)) <;> (intro hc; (try simp only [hcn] at hc); (try simp only [hc]); (try simp only [hcl] at hc); try omega))
  refine CL.stay (num_ok (by omega) hf) fun h1 s1 => ?_
  repeat' (first
    | refine St.h ?_
    | simp (disch := first | omega | (simp only [lnv]; omega)) only [wlk, ↓get_put', ↓reduceIte, seval]
    | (with_reducible (first | apply cd_split | apply gd_split)) <;> (intro hc; (try simp only [hcn] at hc); (try simp only [hc]); (try simp only [hcl] at hc); try omega))
  subst hQ
  exact ⟨rfl, s1⟩
theorem takeText_ok {h : H} {l : List UInt8} (hl : l.length ≤ 1000000) : FnOk Try.prog 60 [sv l] h fun y h' => y = triT (takeT l) ∧ h' = h := by
  refine fn_go c60 (by intro hb; cases hb) (by simp) (by simp) fun Q hQ => ?_
  simp only [slotsF, Nat.reduceAdd]
  repeat' (first
    | refine St.h ?_
    | simp (disch := first | omega | (simp only [lnv]; omega)) only [wlk, ↓get_put', ↓reduceIte, seval]
    | (with_reducible (first | apply cd_split | apply gd_split)) <;> (intro hc; (try simp only [hcn] at hc); (try simp only [hc]); (try simp only [hcl] at hc); try omega))
  refine CL.pure (takeNum_ok hl) ?_
  rcases takeN_range l with (hc | hc) | ⟨n, k, hc, h1, h2, h3, h4⟩
  · have e : takeT l = ([], 0, 10) := by unfold takeT; rw [hc]; rfl
    rw [hc]; unfold tri
    repeat' (first
      | refine St.h ?_
      | simp (disch := first | omega | (simp only [lnv]; omega)) only [wlk, ↓get_put', ↓reduceIte, seval]
      | (with_reducible (first | apply cd_split | apply gd_split)) <;> (intro hc; (try simp only [hcn] at hc); (try simp only [hc]); (try simp only [hcl] at hc); try omega))
    subst hQ
    exact ⟨by rw [e]; rfl, rfl⟩
  · have e : takeT l = ([], 0, 12) := by unfold takeT; rw [hc]; rfl
    rw [hc]; unfold tri
    repeat' (first
      | refine St.h ?_
      | simp (disch := first | omega | (simp only [lnv]; omega)) only [wlk, ↓get_put', ↓reduceIte, seval]
      | (with_reducible (first | apply cd_split | apply gd_split)) <;> (intro hc; (try simp only [hcn] at hc); (try simp only [hc]); (try simp only [hcl] at hc); try omega))
    subst hQ
    exact ⟨by rw [e]; rfl, rfl⟩
  have e : takeT l = if ((l.drop k).length : Int) < (n : Int) then ([], 0, 12) else ((l.drop k).take n, (k : Int) + n, 0) := by
    unfold takeT; rw [hc]; simp only [if_true, Int.toNat_natCast]
  rw [hc]; unfold tri
  have hd : (l.drop k).length = l.length - k := List.length_drop
  repeat' (first
    | refine St.h ?_
    | simp (disch := first | omega | (simp only [lnv]; omega)) only [wlk, ↓get_put', ↓reduceIte, seval, Int.toNat_natCast]
    | (with_reducible (first | apply cd_split | apply gd_split)) <;> (intro hc; (try simp only [hcn] at hc); (try simp only [hc]); (try simp only [hcl] at hc); try omega))
  · rw [if_pos (by omega)] at e
    subst hQ
    exact ⟨by rw [e]; rfl, rfl⟩
  · rw [if_neg (by omega)] at e
    subst hQ
    exact ⟨by rw [e]; rfl, rfl⟩
theorem takeT_range (l : List UInt8) : (takeT l = ([], 0, 10) ∨ takeT l = ([], 0, 12)) ∨ ∃ (v : List UInt8) (k : Nat), takeT l = (v, (k : Int), 0) ∧ 1 ≤ k ∧ k ≤ l.length ∧ v.length ≤ k := by
  rcases takeN_range l with (hc | hc) | ⟨n, k, hc, h1, h2, h3, h4⟩
  · exact .inl (.inl (by unfold takeT; rw [hc]; rfl))
  · exact .inl (.inr (by unfold takeT; rw [hc]; rfl))
  have e : takeT l = if ((l.drop k).length : Int) < (n : Int) then ([], 0, 12) else ((l.drop k).take n, (k : Int) + n, 0) := by
    unfold takeT; rw [hc]; simp only [if_true, Int.toNat_natCast]
  have hd : (l.drop k).length = l.length - k := List.length_drop
  by_cases hn : ((l.drop k).length : Int) < (n : Int)
  · rw [if_pos hn] at e; exact .inl (.inr e)
  · rw [if_neg hn] at e
    exact .inr ⟨_, k + n, by rw [e]; rfl, by omega, by omega, by rw [List.length_take]; omega⟩
end Go.Proofs.Ytmlcddeikgechaa

set_option maxRecDepth 100000
set_option maxHeartbeats 8000000
set_option linter.all false
namespace Go.Proofs.Ytmlcddeikgechaa
open Go Go.Ev
theorem isWrite_ok {h : H} {k v : List UInt8} {d : Bool} (hf : B.val h.floor ≤ B.val h.next) : FnOk Try.prog 44 [.a [sv k, .b d, sv v]] h fun y h' => y = .b (isW k d v) ∧ Stay nowhere h h' := by
  refine fn_go c44 (by intro hb; cases hb) (by simp) (by simp) fun Q hQ => ?_
  simp only [slotsF, Nat.reduceAdd]
  repeat' (first
    | refine St.h ?_
    | simp (disch := first | omega | (simp only [lnv]; omega)) only [wlk, ↓get_put', ↓reduceIte, seval]
    | (with_reducible (first | apply cd_split | apply gd_split)) <;> (intro hc; (try simp only [hcn] at hc); (try simp only [hc]); (try simp only [hcl] at hc); try omega))
  refine AL.own (by simp) hf fun h1 s1 n1 o1 => ?_
  repeat' (first
    | refine St.h ?_
    | simp (disch := first | omega | (simp only [lnv]; omega)) only [wlk, ↓get_put', ↓reduceIte, seval, o1.row.l1]
    | (with_reducible (first | apply cd_split | apply gd_split)) <;> (intro hc; (try simp only [hcn] at hc); (try simp only [hc]); (try simp only [hcl] at hc); try omega))
  all_goals (subst hQ; refine ⟨?_, s1⟩; congr 1; symm; first | exact isW_lo (by assumption) | exact isW_hi (by assumption) | exact isW_t (by assumption) (by assumption) (by assumption) | exact isW_f (by assumption) (by assumption) (by assumption))
theorem risWrite_ok {h : H} {k v : List UInt8} {d : Bool} (hf : B.val h.floor ≤ B.val h.next) : FnOk Try.prog 46 [.a [sv k, .b d, sv v]] h fun y h' => y = .b (isW k d v) ∧ Stay nowhere h h' := by
  refine fn_go c46 (by intro hb; cases hb) (by simp) (by simp) fun Q hQ => ?_
  simp only [slotsF, Nat.reduceAdd]
  repeat' (first
    | refine St.h ?_
    | simp (disch := first | omega | (simp only [lnv]; omega)) only [wlk, ↓get_put', ↓reduceIte, seval]
    | (with_reducible (first | apply cd_split | apply gd_split)) <;> (intro hc; (try simp only [hcn] at hc); (try simp only [hc]); (try simp only [hcl] at hc); try omega))
  refine AL.own (by simp) hf fun h1 s1 n1 o1 => ?_
  repeat' (first
    | refine St.h ?_
    | simp (disch := first | omega | (simp only [lnv]; omega)) only [wlk, ↓get_put', ↓reduceIte, seval, o1.row.l1]
    | (with_reducible (first | apply cd_split | apply gd_split)) <;> (intro hc; (try simp only [hcn] at hc); (try simp only [hc]); (try simp only [hcl] at hc); try omega))
  all_goals (subst hQ; refine ⟨?_, s1⟩; congr 1; symm; first | exact isW_lo (by assumption) | exact isW_hi (by assumption) | exact isW_big (by assumption) | exact isW_t (by assumption) (by assumption) (by assumption) | (rw [isW_f (by assumption) (by assumption) (by assumption)]; exact decide_eq_true (by assumption)))
end Go.Proofs.Ytmlcddeikgechaa

set_option maxRecDepth 100000
set_option maxHeartbeats 8000000
set_option linter.all false
namespace Go.Proofs.Ytmlcddeikgechaa
open Go Go.Ev
theorem own_lt' {h : H} {id : B} {xs : List V} (o : Ev.Own h id xs) : B.val id < B.val h.next := by obtain ⟨_, _, _, _, _, _, h6, _⟩ := o; exact h6
/-- a block, as it lies -/
structure Bk where
  v : V
  l : List Ent
instance : Inhabited Bk := ⟨⟨.l0, []⟩⟩
def bkC (b : Bk) : List V := [b.v]
theorem bkC_len (b : Bk) : (bkC b).length = 1 := rfl
/-- blocks, as they lie -/
structure Bls (h : H) (v : V) (bs : List (List Ent)) (ks : List Bk) : Prop where
  ss : Ss 1 bkC h v ks
  eq : ks.map (·.l) = bs
  es : ∀ k ∈ ks, Es h k.v k.l
section
variable {P : Program} {h h' g' : H} {N : Nx} {v : V} {bs : List (List Ent)} {ks : List Bk} {i : Nat}
theorem Bls.len (a : Bls h v bs ks) : ks.length = bs.length := by rw [← a.eq, List.length_map]
theorem Bls.ln (a : Bls h v bs ks) : H1 P gLen v g' N = N.go P (.i .i64 (bs.length : Int)) g' := by rw [← a.len]; exact a.ss.ln
theorem Bls.ix (a : Bls h v bs ks) (hi : i < bs.length) : IX P 1 v i g' N = N.go P (.p (lid v) (lg v) (loff v + i) (lfin v)) g' := by
  have := a.ss.ix (P := P) (g' := g') (N := N) (i := i) (by rw [a.len]; exact hi)
  rwa [Nat.mul_one] at this
theorem Bls.ld (a : Bls h v bs ks) (hi : i < bs.length) : L1 P (lid v) (lg v) (loff v + i) (lfin v) h N = N.go P (ks.getD i default).v h := by
  have := a.ss.ld (P := P) (N := N) (i := i) (d := 0) bkC_len (by rw [a.len]; exact hi) (by omega)
  rwa [Nat.mul_one] at this
theorem Bls.grow (a : Bls h v bs ks) (s : Stay nowhere h h') : Bls h' v bs ks := ⟨a.ss.grow s, a.eq, fun k hk => (a.es k hk).grow s⟩
theorem Bls.at (a : Bls h v bs ks) (hi : i < bs.length) : Es h (ks.getD i default).v (bs.getD i []) := by
  have hk : i < ks.length := by rw [a.len]; exact hi
  have h1 := a.es (ks.getD i default) (by rw [List.getD_eq_getElem?_getD, List.getElem?_eq_getElem hk]; simp)
  have h2 : bs.getD i [] = (ks.getD i default).l := by rw [← a.eq]; simp [List.getD, List.getElem?_eq_getElem hk]
  rw [h2]; exact h1
end
end Go.Proofs.Ytmlcddeikgechaa

set_option linter.all false
namespace Go.Proofs.Ytmlcddeikgechaa
open Go Go.Ev
structure Wk where
  v : V
  l : List Wri
instance : Inhabited Wk := ⟨⟨.l0, []⟩⟩
def wkC (b : Wk) : List V := [b.v]
theorem wkC_len (b : Wk) : (wkC b).length = 1 := rfl
structure Wls (h : H) (v : V) (bs : List (List Wri)) (ks : List Wk) : Prop where
  ss : Ss 1 wkC h v ks
  eq : ks.map (·.l) = bs
  es : ∀ k ∈ ks, Ws h k.v k.l ∧ SwN 3 k.v
section
variable {P : Program} {h h' g' : H} {N : Nx} {v : V} {bs : List (List Wri)} {ks : List Wk} {i : Nat}
theorem Wls.len (a : Wls h v bs ks) : ks.length = bs.length := by rw [← a.eq, List.length_map]
theorem Wls.ln (a : Wls h v bs ks) : H1 P gLen v g' N = N.go P (.i .i64 (bs.length : Int)) g' := by rw [← a.len]; exact a.ss.ln
theorem Wls.ix (a : Wls h v bs ks) (hi : i < bs.length) : IX P 1 v i g' N = N.go P (.p (lid v) (lg v) (loff v + i) (lfin v)) g' := by
  have := a.ss.ix (P := P) (g' := g') (N := N) (i := i) (by rw [a.len]; exact hi)
  rwa [Nat.mul_one] at this
theorem Wls.ld (a : Wls h v bs ks) (hi : i < bs.length) : L1 P (lid v) (lg v) (loff v + i) (lfin v) h N = N.go P (ks.getD i default).v h := by
  have := a.ss.ld (P := P) (N := N) (i := i) (d := 0) wkC_len (by rw [a.len]; exact hi) (by omega)
  rwa [Nat.mul_one] at this
theorem Wls.grow (a : Wls h v bs ks) (s : Stay nowhere h h') : Wls h' v bs ks := ⟨a.ss.grow s, a.eq, fun k hk => ⟨(a.es k hk).1.grow s, (a.es k hk).2⟩⟩
theorem Wls.at (a : Wls h v bs ks) (hi : i < bs.length) : Ws h (ks.getD i default).v (bs.getD i []) ∧ SwN 3 (ks.getD i default).v := by
  have hk : i < ks.length := by rw [a.len]; exact hi
  have h1 := a.es (ks.getD i default) (by rw [List.getD_eq_getElem?_getD, List.getElem?_eq_getElem hk]; simp)
  have h2 : bs.getD i [] = (ks.getD i default).l := by rw [← a.eq]; simp [List.getD, List.getElem?_eq_getElem hk]
  rw [h2]; exact h1
end
end Go.Proofs.Ytmlcddeikgechaa

set_option linter.all false
namespace Go.Proofs.Ytmlcddeikgechaa
open Go Go.Ev Go.RowKit Go.WideShapes Go.ChangeShapes Go.ChangeAt Go.Deep
theorem swn_absW {W : World} {h : H} {x : Value} {L : List Wri} (a : Ws h (absV W x) L) : SwN 3 (absV W x) := by
  have nol : ∀ v : V, Ws h v L → v ≠ .u := by
    rintro _ (⟨rfl, _⟩ | ⟨id, g, off, fin, cap, rfl, _⟩) <;> intro e <;> cases e
  have np : ∀ id g off fin, ¬ Ws h (.p id g off fin) L := by
    rintro id g off fin (⟨e, _⟩ | ⟨_, _, _, _, _, e, _⟩) <;> cases e
  revert a
  unfold absV
  split
  all_goals intro a
  all_goals first
    | exact .inl rfl
    | (exfalso; rcases a with ⟨e, _⟩ | ⟨_, _, _, _, _, e, _⟩ <;> cases e; done)
    | skip
  · split at a
    · exact absurd a (np _ _ _ _)
    · exact absurd rfl (nol _ a)
  · rename_i hh
    split at a
    · rename_i hb
      rw [if_pos hb]
      exact .inr ⟨_, _, _, _, _, _, rfl, hb.2.1, fun h => absurd hb.2.2 (Nat.not_lt.2 h)⟩
    · exact absurd rfl (nol _ a)
  · split at a
    · rename_i hb
      rw [if_pos hb]
      exact .inr ⟨_, _, _, _, _, _, rfl, rfl⟩
    · exact absurd rfl (nol _ a)
/-- a row of writes -/
theorem ws_of {H' : Type} {enc : TypeId × Value → H'} {P : Program} {W : World} {h : H} (s : Go.Ev.Start W h) (h0 : 0 < W.heap.size) {t e : TypeId} {fs : Array Field} {fuel : Nat} {cs : List Value} {x : DataW H' × List MemPlace} (ht : P.underlying t = some (.slice e)) (F : FlatF P e fs [.s, .b, .s])
    (hd : DataW.trod enc P W 0 (fun _ => true) true fuel t cs = some x) : ∃ sv L, cs = [sv] ∧ Ws h (absV W sv) L ∧ L.length ≤ 9223372036854775807 ∧ ∀ a ∈ L, True :=
  rows_of (c := wriC) (Pr := fun _ => True) wriC_len (by omega) s h0 ht F.sz (fun fuel cs x h => by
    obtain ⟨_, _, rfl, ⟨a, rfl, _⟩, _, _, rfl, ⟨b, rfl⟩, _, _, rfl, ⟨c, rfl, _⟩, rfl⟩ := flat_fits F h
    refine ⟨⟨a.data.toList, b, c.data.toList⟩, ?_, trivial⟩
    simp only [List.map_cons, List.map_nil, absV_bool, absV_str]
    rfl) hd
end Go.Proofs.Ytmlcddeikgechaa

set_option linter.all false
namespace Go.Ev
open Go Go.RowKit Go.WideShapes Go.ChangeShapes Go.ChangeAt Go.Deep
section
variable {H' : Type} {enc : TypeId × Value → H'} {P : Program}
theorem flat_of {W : World} {t : TypeId} {fs : Array Field} {fuel : Nat} {cs : List Value} {x : DataW H' × List MemPlace} (ut : P.underlying t = some (.struct fs)) (hd : DataW.trod enc P W 0 (fun _ => true) true fuel t cs = some x) :
    cs.length = P.cellsOf t ∧ ∀ (i : Nat) f, fs.toList[i]? = some f → ∃ n y, DataW.trod enc P W 0 (fun _ => true) true n f.type ((cs.drop f.offset).take (P.cellsOf f.type)) = some y := by
  cases fuel with
  | zero => simp [DataW.trod] at hd
  | succ n =>
    unfold DataW.trod at hd
    rw [ut] at hd
    simp only at hd
    split at hd
    · rename_i hl
      refine ⟨hl, fun i f hf => ?_⟩
      rw [Option.map_eq_some_iff] at hd
      obtain ⟨xs, hx, _⟩ := hd
      have := mapM_some_get hx i f hf
      have hlen := mapM_some_length hx
      have hi : i < xs.length := by rw [hlen]; exact (List.getElem?_eq_some_iff.1 hf).1
      exact ⟨n, xs[i], by rw [this]; simp⟩
    · cases hd
structure EntF (P : Program) (t : TypeId) (fs : Array Field) : Prop where
  ut : P.underlying t = some (.struct fs)
  sz : P.cellsOf t = 4
  f0 : ∃ f, fs.toList[0]? = some f ∧ f.offset = 0 ∧ P.cellsOf f.type = 1 ∧ P.underlying f.type = some .string
  f1 : ∃ f, fs.toList[1]? = some f ∧ f.offset = 1 ∧ P.cellsOf f.type = 1 ∧ P.underlying f.type = some (.int .i64)
  f2 : ∃ f, fs.toList[2]? = some f ∧ f.offset = 2 ∧ P.cellsOf f.type = 1 ∧ P.underlying f.type = some .bool
  f3 : ∃ f, fs.toList[3]? = some f ∧ f.offset = 3 ∧ P.cellsOf f.type = 1 ∧ P.underlying f.type = some .string
structure WriF (P : Program) (t : TypeId) (fs : Array Field) : Prop where
  ut : P.underlying t = some (.struct fs)
  sz : P.cellsOf t = 3
  f0 : ∃ f, fs.toList[0]? = some f ∧ f.offset = 0 ∧ P.cellsOf f.type = 1 ∧ P.underlying f.type = some .string
  f1 : ∃ f, fs.toList[1]? = some f ∧ f.offset = 1 ∧ P.cellsOf f.type = 1 ∧ P.underlying f.type = some .bool
  f2 : ∃ f, fs.toList[2]? = some f ∧ f.offset = 2 ∧ P.cellsOf f.type = 1 ∧ P.underlying f.type = some .string
end
end Go.Ev

set_option linter.all false
namespace Go.Ev
open Go
structure Itm where
  lv : Int
  n : Int
  tn : Int
  sh : Bool
  ws : List Wri
deriving DecidableEq
def itmZ : Itm := ⟨0, 0, 0, false, []⟩
instance : Inhabited Itm := ⟨itmZ⟩
theorem itm_ext {a b : Itm} (h : a.lv = b.lv ∧ a.n = b.n ∧ a.tn = b.tn ∧ a.sh = b.sh ∧ a.ws = b.ws) : a = b := by cases a; cases b; simp at h; simp [h]
def numsI (x : Itm) : Bool := decide (0 ≤ x.lv ∧ x.lv < 6 ∧ 1 ≤ x.n ∧ x.n ≤ 1000000 ∧ 0 ≤ x.tn ∧ x.tn ≤ 1000000)
def shortI (L : List Wri) : Bool := L.all fun w => decide (w.key.length ≤ 12)
def kindI (x : Itm) : Bool := (x.sh && decide (x.ws = [])) || (!x.sh && decide (x.ws ≠ []) && isB x.ws)
def isI (x : Itm) : Bool := numsI x && (shortI x.ws && kindI x)
theorem shortI_iff {L : List Wri} : shortI L = true ↔ ∀ w ∈ L, w.key.length ≤ 12 := by unfold shortI; rw [List.all_eq_true]; simp
theorem isI_nums {x : Itm} (h : isI x = true) : 0 ≤ x.lv ∧ x.lv < 6 ∧ 1 ≤ x.n ∧ x.n ≤ 1000000 ∧ 0 ≤ x.tn ∧ x.tn ≤ 1000000 := by
  unfold isI at h; rw [Bool.and_eq_true] at h; exact of_decide_eq_true h.1
theorem isI_isB {x : Itm} (h : isI x = true) : isB x.ws = true := by
  unfold isI kindI at h
  rw [Bool.and_eq_true, Bool.and_eq_true, Bool.or_eq_true, Bool.and_eq_true, Bool.and_eq_true, Bool.and_eq_true] at h
  rcases h.2.2 with h | h
  · rw [of_decide_eq_true h.2]; rfl
  · exact h.2
def kindB (x : Itm) : UInt8 := if x.sh then 1 else 0
def bodyI (x : Itm) : List UInt8 := numB x.lv.toNat ++ (numB x.n.toNat ++ (numB x.tn.toNat ++ (kindB x :: rowsB x.ws)))
def itmB (x : Itm) : List UInt8 := sealB (bodyI x)
def bytI (x : Itm) : List UInt8 × Bool := if isI x then (itmB x, true) else ([], false)
/-- what was sealed, taken -/
def takeI (b : List UInt8) : Option Itm :=
  let p := takeN b
  if p.2.2 ≠ 0 then none else
  let b1 := b.drop p.2.1.toNat
  let q := takeN b1
  if q.2.2 ≠ 0 then none else
  let b2 := b1.drop q.2.1.toNat
  let r := takeN b2
  if r.2.2 ≠ 0 then none else
  match b2.drop r.2.1.toNat with
  | [] => none
  | c :: b3 => (takeR b3).map fun w => ⟨p.1, q.1, r.1, decide (c = 1), w⟩
def readI (s : List UInt8) : Itm × Int × Int :=
  let o := openB s
  if o.2.2 ≠ 0 then (itmZ, 0, o.2.2) else
  match takeI o.1 with
  | none => (itmZ, 0, 10)
  | some x => if isI x = true ∧ itmB x = s.take o.2.1.toNat then (x, o.2.1, 0) else (itmZ, 0, 10)
def fewI (x : Itm) : Bool := x.ws.all okW && decide (x.ws.length ≤ 12)
end Go.Ev

set_option linter.all false
namespace Go.Ev
open Go
/-- an item, with where its writes lie -/
structure Ik where
  v : V
  x : Itm
instance : Inhabited Ik := ⟨⟨.l0, itmZ⟩⟩
def ikC (k : Ik) : List V := [.i .i64 k.x.lv, .i .i64 k.x.n, .i .i64 k.x.tn, .b k.x.sh, k.v]
theorem ikC_len (k : Ik) : (ikC k).length = 5 := rfl
/-- numbers that are ints -/
def FitI (x : Itm) : Prop := (-9223372036854775808 ≤ x.lv ∧ x.lv ≤ 9223372036854775807) ∧ (-9223372036854775808 ≤ x.n ∧ x.n ≤ 9223372036854775807) ∧ (-9223372036854775808 ≤ x.tn ∧ x.tn ≤ 9223372036854775807) ∧ x.ws.length ≤ 9223372036854775807
structure Its (h : H) (v : V) (K : List Ik) : Prop where
  ss : Ss 5 ikC h v K
  es : ∀ k ∈ K, Ws h k.v k.x.ws ∧ SwN 3 k.v ∧ FitI k.x
section
variable {P : Program} {h h' g' : H} {N : Nx} {v : V} {K : List Ik} {i : Nat}
theorem getK_in {K : List Ik} (hi : i < K.length) : K.getD i default ∈ K := by
  rw [show K.getD i default = K[i] by simp [List.getD, hi]]; exact List.getElem_mem hi
theorem Its.ln (a : Its h v K) : H1 P gLen v g' N = N.go P (.i .i64 (K.length : Int)) g' := Ss.ln a.ss
theorem Its.ix (a : Its h v K) (hi : i < K.length) : IX P 5 v i g' N = N.go P (.p (lid v) (lg v) (loff v + i * 5) (lfin v)) g' := Ss.ix a.ss hi
theorem Its.la (a : Its h v K) (hi : i < K.length) : LN P (lid v) (lg v) (loff v + i * 5) (lfin v) 5 h N = N.go P (.a [.i .i64 (K.getD i default).x.lv, .i .i64 (K.getD i default).x.n, .i .i64 (K.getD i default).x.tn, .b (K.getD i default).x.sh, (K.getD i default).v]) h := Ss.ldA a.ss ikC_len (by omega) hi
theorem Its.grow (a : Its h v K) (s : Stay nowhere h h') : Its h' v K := ⟨Ss.grow a.ss s, fun k hk => ⟨(a.es k hk).1.grow s, (a.es k hk).2⟩⟩
theorem Its.at (a : Its h v K) (hi : i < K.length) : Ws h (K.getD i default).v (K.getD i default).x.ws ∧ SwN 3 (K.getD i default).v ∧ FitI (K.getD i default).x := a.es _ (getK_in hi)
end
end Go.Ev

set_option linter.all false
namespace Go.Proofs.Ytmlcddeikgechaa
open Go Go.Ev Go.RowKit Go.WideShapes Go.ChangeShapes Go.ChangeAt Go.Deep
structure ItmF (P : Program) (t : TypeId) (fs : Array Field) : Prop where
  ut : P.underlying t = some (.struct fs)
  sz : P.cellsOf t = 5
  f0 : ∃ f, fs.toList[0]? = some f ∧ f.offset = 0 ∧ P.cellsOf f.type = 1 ∧ P.underlying f.type = some (.int .i64)
  f1 : ∃ f, fs.toList[1]? = some f ∧ f.offset = 1 ∧ P.cellsOf f.type = 1 ∧ P.underlying f.type = some (.int .i64)
  f2 : ∃ f, fs.toList[2]? = some f ∧ f.offset = 2 ∧ P.cellsOf f.type = 1 ∧ P.underlying f.type = some (.int .i64)
  f3 : ∃ f, fs.toList[3]? = some f ∧ f.offset = 3 ∧ P.cellsOf f.type = 1 ∧ P.underlying f.type = some .bool
  f4 : ∃ f, fs.toList[4]? = some f ∧ f.offset = 4 ∧ P.cellsOf f.type = 1 ∧ ∃ e gs, P.underlying f.type = some (.slice e) ∧ FlatF P e gs [.s, .b, .s]
section
variable {H' : Type} {enc : TypeId × Value → H'} {P : Program} {W : World}
def itV (a b c : Int) (q : Bool) (w : Value) : List Value := [.int .i64 a, .int .i64 b, .int .i64 c, .bool q, w]
theorem it_cells {h : H} (s : Go.Ev.Start W h) (h0 : 0 < W.heap.size) {t : TypeId} {fs : Array Field} {fuel : Nat} {cs : List Value} {x : DataW H' × List MemPlace} (F : ItmF P t fs)
    (hd : DataW.trod enc P W 0 (fun _ => true) true fuel t cs = some x) : ∃ a b c q w L, cs = itV a b c q w ∧ Ws h (absV W w) L ∧ SwN 3 (absV W w) ∧ FitI ⟨a, b, c, q, L⟩ := by
  obtain ⟨hl, hf⟩ := flat_of F.ut hd
  rw [F.sz] at hl
  obtain ⟨f0, g0, o0, z0, u0⟩ := F.f0
  obtain ⟨f1, g1, o1, z1, u1⟩ := F.f1
  obtain ⟨f2, g2, o2, z2, u2⟩ := F.f2
  obtain ⟨f3, g3, o3, z3, u3⟩ := F.f3
  obtain ⟨f4, g4, o4, z4, t4, gs, u4, F4⟩ := F.f4
  match cs, hl with
  | [c0, c1, c2, c3, c4], _ =>
    obtain ⟨_, _, k0⟩ := hf 0 f0 g0
    obtain ⟨_, _, k1⟩ := hf 1 f1 g1
    obtain ⟨_, _, k2⟩ := hf 2 f2 g2
    obtain ⟨_, _, k3⟩ := hf 3 f3 g3
    obtain ⟨_, _, k4⟩ := hf 4 f4 g4
    rw [o0, z0] at k0
    rw [o1, z1] at k1
    rw [o2, z2] at k2
    rw [o3, z3] at k3
    rw [o4, z4] at k4
    obtain ⟨a, e0, _, w0⟩ := DataW.trod_int u0 k0
    obtain ⟨b, e1, _, w1⟩ := DataW.trod_int u1 k1
    obtain ⟨c, e2, _, w2⟩ := DataW.trod_int u2 k2
    obtain ⟨q, e3, _⟩ := DataW.trod_bool u3 k3
    obtain ⟨w, L, e4, m4, l4, _⟩ := ws_of s h0 u4 F4 k4
    simp at e0 e1 e2 e3 e4
    subst e0 e1 e2 e3 e4
    exact ⟨a, b, c, q, _, L, rfl, m4, swn_absW m4, wf_i64 w0, wf_i64 w1, wf_i64 w2, l4⟩
/-- an argument that is an item -/
theorem it_of {h : H} (s : Go.Ev.Start W h) (h0 : 0 < W.heap.size) {t : TypeId} {fs : Array Field} {v : Value} {d : DataW H'} {ps : List MemPlace} {base : Nat} (F : ItmF P t fs) (hval : Value.okWide P W .any base t v) (hd : DataW.Trod enc P W 0 (fun _ => true) true t v d ps) :
    ∃ a b c q w L, v = .agg (itV a b c q w).toArray ∧ Ws h (absV W w) L ∧ SwN 3 (absV W w) ∧ FitI ⟨a, b, c, q, L⟩ := by
  unfold Value.okWide at hval
  rw [F.ut] at hval
  obtain ⟨cs, rfl, hsz, _⟩ := hval
  obtain ⟨fuel, hfu⟩ := hd
  have e : (Value.agg cs).cells.toList = cs.toList := rfl
  rw [e] at hfu
  obtain ⟨a, b, c, q, w, L, h1, h2⟩ := it_cells s h0 F hfu
  exact ⟨a, b, c, q, w, L, by rw [← h1], h2⟩
theorem it_rel (a b c : Int) (q : Bool) (w : Value) : VRel (emb0 W) (.a [.i .i64 a, .i .i64 b, .i .i64 c, .b q, absV W w]) (.agg (itV a b c q w).toArray) :=
  ⟨_, rfl, rfl, rfl, rfl, rfl, absV_rel W w, trivial⟩
/-- a row of items -/
theorem its_of {h : H} (s : Go.Ev.Start W h) (h0 : 0 < W.heap.size) {t e : TypeId} {fs : Array Field} {fuel : Nat} {cs : List Value} {x : DataW H' × List MemPlace} (ht : P.underlying t = some (.slice e)) (F : ItmF P e fs)
    (hd : DataW.trod enc P W 0 (fun _ => true) true fuel t cs = some x) : ∃ sv K, cs = [sv] ∧ Its h (absV W sv) K ∧ K.length ≤ 9223372036854775807 := by
  obtain ⟨sv, K, e1, e2, e3, e4⟩ := rows_of (α := Ik) (c := ikC) (n := 5) (Pr := fun k => Ws h k.v k.x.ws ∧ SwN 3 k.v ∧ FitI k.x) ikC_len (by omega) s h0 ht F.sz (fun fuel cs x hx => by
    obtain ⟨a, b, c, q, w, L, rfl, m, sw, f⟩ := it_cells s h0 F hx
    refine ⟨⟨absV W w, ⟨a, b, c, q, L⟩⟩, ?_, m, sw, f⟩
    unfold itV
    simp only [List.map_cons, List.map_nil, absV_int, absV_bool]
    rfl) hd
  exact ⟨sv, K, e1, ⟨e2, e4⟩, e3⟩
end
end Go.Proofs.Ytmlcddeikgechaa

set_option maxRecDepth 1000000
set_option linter.all false
namespace Go.Proofs.Ytmlcddeikgechaa
open Go Go.Ev
noncomputable abbrev s15_0 : CC := (CC.seq (CC.region [(wB 2 (doMove (O.c (V.b Bool.false))))]) CC.ret)
noncomputable abbrev s15_1 : CC := (CC.seq (CC.region [(wB 2 (doMove (O.c (V.b Bool.false))))]) CC.ret)
noncomputable abbrev s15_2 : CC := (CC.seq (CC.region [(wB 2 (doMove (O.c (V.b Bool.false))))]) CC.ret)
noncomputable abbrev s15_3 : CC := (CC.seq (CC.region [(wB 33 (doFieldAddr 4 (tm 1))), (wB 34 (doLoad (tm 33))), (wB 35 (doLen (tm 34))), (wB 36 (bin2 fEql (tm 35) (oN 0))), (wB 2 (doMove (tm 36)))]) CC.ret)
noncomputable abbrev s15_4 : CC := (CC.cond (tm 30) s15_3 CC.skip)
noncomputable abbrev s15_5 : CC := (CC.seq (CC.region [(wB 31 (doFieldAddr 3 (tm 1))), (wB 32 (doLoad (tm 31))), (wB 30 (doMove (tm 32)))]) s15_4)
noncomputable abbrev s15_6 : CC := (CC.cond (tm 21) s15_2 s15_5)
noncomputable abbrev s15_7 : CC := (CC.seq (CC.region [(wB 22 (doFieldAddr 2 (tm 1))), (wB 23 (doLoad (tm 22))), (wB 24 (bin2 fLss (tm 23) (oN 0))), (wB 25 (doMove (tm 24))), (wG 25 false 26 (doFieldAddr 2 (tm 1))), (wG 25 false 27 (doLoad (tm 26))), (wG 25 false 28 (bin2 fGtr (tm 27) (oN 1000000))), (wB 29 (doPick (tm 25) (O.c (V.b Bool.true)) (tm 28))), (wB 21 (doMove (tm 29)))]) s15_6)
noncomputable abbrev s15_8 : CC := (CC.cond (tm 12) s15_1 s15_7)
noncomputable abbrev s15_9 : CC := (CC.seq (CC.region [(wB 13 (doFieldAddr 1 (tm 1))), (wB 14 (doLoad (tm 13))), (wB 15 (bin2 fLss (tm 14) (oN 1))), (wB 16 (doMove (tm 15))), (wG 16 false 17 (doFieldAddr 1 (tm 1))), (wG 16 false 18 (doLoad (tm 17))), (wG 16 false 19 (bin2 fGtr (tm 18) (oN 1000000))), (wB 20 (doPick (tm 16) (O.c (V.b Bool.true)) (tm 19))), (wB 12 (doMove (tm 20)))]) s15_8)
noncomputable abbrev s15_10 : CC := (CC.cond (tm 3) s15_0 s15_9)
noncomputable abbrev s15_11 : CC := (CC.seq (CC.region [(wB 4 (doFieldAddr 0 (tm 1))), (wB 5 (doLoad (tm 4))), (wB 6 (bin2 fLss (tm 5) (oN 0))), (wB 7 (doMove (tm 6))), (wG 7 false 8 (doFieldAddr 0 (tm 1))), (wG 7 false 9 (doLoad (tm 8))), (wG 7 false 10 (bin2 fGeq (tm 9) (oN 6))), (wB 11 (doPick (tm 7) (O.c (V.b Bool.true)) (tm 10))), (wB 3 (doMove (tm 11)))]) s15_10)
noncomputable abbrev s15_12 : CC := (CC.block 0 s15_11)
noncomputable abbrev s15_13 : CC := (CC.seq (CC.region [(wB 37 (doFieldAddr 4 (tm 1))), (wB 38 (doLoad (tm 37))), (wB 39 (doLen (tm 38))), (wB 40 (bin2 fGtr (tm 39) (oN 0))), (wB 41 (doMove (tm 40))), (wG 41 true 42 (doFieldAddr 4 (tm 1))), (wG 41 true 43 (doLoad (tm 42))), (wG 41 true 44 (doCall 30 [(tm 43)])), (wB 45 (doPick (tm 41) (tm 44) (O.c (V.b Bool.false)))), (wB 46 (doMove (tm 45))), (wG 46 true 47 (doFieldAddr 4 (tm 1))), (wG 46 true 48 (doLoad (tm 47))), (wG 46 true 49 (doCall 31 [(tm 48), (O.c (V.f 32 []))])), (wG 46 true 50 (doNot (tm 49))), (wB 51 (doPick (tm 46) (tm 50) (O.c (V.b Bool.false)))), (wB 2 (doMove (tm 51)))]) CC.ret)
noncomputable abbrev s15_14 : CC := (CC.seq s15_12 s15_13)
noncomputable abbrev b15 : CC := (CC.seq (CC.region [(wB 1 (doBox 24 (tm 0))), (wB 2 (doMove (O.c (V.b Bool.false))))]) s15_14)
theorem c15 : compFn Try.prog 15 = ⟨52, b15, [(Rs.tmp (slOf 2))]⟩ := by kernel_rfl
noncomputable abbrev s17_0 : CC := (CC.seq (CC.region [(wB 5 (doFieldAddr 0 (tm 2))), (wB 6 (doLoad (tm 5))), (wB 7 (doFieldAddr 0 (tm 3))), (wB 8 (doLoad (tm 7))), (wB 9 (bin2 fEql (tm 6) (tm 8))), (wB 10 (doMove (tm 9))), (wG 10 true 11 (doFieldAddr 1 (tm 2))), (wG 10 true 12 (doLoad (tm 11))), (wG 10 true 13 (doFieldAddr 1 (tm 3))), (wG 10 true 14 (doLoad (tm 13))), (wG 10 true 15 (bin2 fEql (tm 12) (tm 14))), (wB 16 (doPick (tm 10) (tm 15) (O.c (V.b Bool.false)))), (wB 17 (doMove (tm 16))), (wG 17 true 18 (doFieldAddr 2 (tm 2))), (wG 17 true 19 (doLoad (tm 18))), (wG 17 true 20 (doFieldAddr 2 (tm 3))), (wG 17 true 21 (doLoad (tm 20))), (wG 17 true 22 (bin2 fEql (tm 19) (tm 21))), (wB 23 (doPick (tm 17) (tm 22) (O.c (V.b Bool.false)))), (wB 24 (doMove (tm 23))), (wG 24 true 25 (doFieldAddr 3 (tm 2))), (wG 24 true 26 (doLoad (tm 25))), (wG 24 true 27 (doFieldAddr 3 (tm 3))), (wG 24 true 28 (doLoad (tm 27))), (wG 24 true 29 (doBool Bool.false (tm 26) (tm 28))), (wB 30 (doPick (tm 24) (tm 29) (O.c (V.b Bool.false)))), (wB 31 (doMove (tm 30))), (wG 31 true 32 (doFieldAddr 4 (tm 2))), (wG 31 true 33 (doLoad (tm 32))), (wG 31 true 34 (doFieldAddr 4 (tm 3))), (wG 31 true 35 (doLoad (tm 34))), (wG 31 true 36 (doCall 34 [(tm 33), (tm 35)])), (wB 37 (doPick (tm 31) (tm 36) (O.c (V.b Bool.false)))), (wB 4 (doMove (tm 37)))]) CC.ret)
noncomputable abbrev b17 : CC := (CC.seq (CC.region [(wB 2 (doBox 24 (tm 0))), (wB 3 (doBox 24 (tm 1))), (wB 4 (doMove (O.c (V.b Bool.false))))]) s17_0)
theorem c17 : compFn Try.prog 17 = ⟨38, b17, [(Rs.tmp (slOf 4))]⟩ := by kernel_rfl
noncomputable abbrev s9_0 : CC := (CC.seq (CC.region [(wB 2 (doMove (O.c (V.s 0 0)))), (wB 3 (doMove (oN 10)))]) CC.ret)
noncomputable abbrev s9_1 : CC := (CC.cond (tm 8) s9_0 CC.skip)
noncomputable abbrev s9_2 : CC := (CC.seq (CC.region [(wB 6 (doLoadA 5 (tm 1))), (wB 7 (doCall 15 [(tm 6)])), (wB 8 (doNot (tm 7)))]) s9_1)
noncomputable abbrev s9_3 : CC := (CC.region [(wB 4 (doMove (O.c (V.i IntKind.u8 (Int.ofNat 1)))))])
noncomputable abbrev s9_4 : CC := (CC.cond (tm 10) s9_3 CC.skip)
noncomputable abbrev s9_5 : CC := (CC.seq (CC.region [(wB 9 (doFieldAddr 3 (tm 1))), (wB 10 (doLoad (tm 9)))]) s9_4)
noncomputable abbrev s9_6 : CC := (CC.seq (CC.region [(wB 26 (doMove (tm 5))), (wB 27 (doFieldAddr 4 (tm 1))), (wB 28 (doLoad (tm 27))), (wB 29 (doCall 20 [(tm 28)])), (wB 30 (doConcat (tm 26) (tm 29))), (wB 31 (doCall 19 [(tm 30)])), (wB 2 (doMove (tm 31))), (wB 3 (doMove (oN 0)))]) CC.ret)
noncomputable abbrev s9_7 : CC := (CC.seq (CC.draws [(uB 11 (doFieldAddr 0 (tm 1))), (uB 12 (doLoad (tm 11))), (uB 13 (doCall 18 [(tm 12)])), (uB 14 (doFieldAddr 1 (tm 1))), (uB 15 (doLoad (tm 14))), (uB 16 (doCall 18 [(tm 15)])), (uB 17 (doConcat (tm 13) (tm 16))), (uB 18 (doFieldAddr 2 (tm 1))), (uB 19 (doLoad (tm 18))), (uB 20 (doCall 18 [(tm 19)])), (uB 21 (doConcat (tm 17) (tm 20))), (uB 22 (doMove (tm 4))), (uB 23 (doBuildSlice 5 1 [(V.i IntKind.u8 (Int.ofNat 0))] [(Pt.mk 0 1 (tm 22))])), (uB 24 (doB2S (tm 23))), (uB 25 (doConcat (tm 21) (tm 24))), (uB 5 (doMove (tm 25)))] none) s9_6)
noncomputable abbrev s9_8 : CC := (CC.seq s9_5 s9_7)
noncomputable abbrev s9_9 : CC := (CC.seq (CC.region [(wB 4 (doMove (O.c (V.i IntKind.u8 (Int.ofNat 0)))))]) s9_8)
noncomputable abbrev s9_10 : CC := (CC.seq s9_2 s9_9)
noncomputable abbrev b9 : CC := (CC.seq (CC.region [(wB 1 (doBox 24 (tm 0))), (wB 2 (doMove (O.c (V.s 0 0)))), (wB 3 (doMove (oN 0)))]) s9_10)
theorem c9 : compFn Try.prog 9 = ⟨32, b9, [(Rs.tmp (slOf 2)), (Rs.tmp (slOf 3))]⟩ := by kernel_rfl
noncomputable abbrev s11_0 : CC := (CC.seq (CC.region [(wB 19 (doBuild [(V.i IntKind.i64 (Int.ofNat 0)), (V.i IntKind.i64 (Int.ofNat 0)), (V.i IntKind.i64 (Int.ofNat 0)), (V.b Bool.false), V.l0] [])), (wB 20 (doMove (tm 7))), (CO.mk G.none D.none Bool.true (CR.mk (doStore 5 (tm 2) (tm 19)))), (wB 3 (doMove (oN 0))), (wB 4 (doMove (tm 20)))]) CC.ret)
noncomputable abbrev s11_1 : CC := (CC.cond (tm 18) s11_0 CC.skip)
noncomputable abbrev s11_2 : CC := (CC.seq (CC.region [(wB 17 (doMove (tm 7))), (wB 18 (bin2 fNeq (tm 17) (oN 0)))]) s11_1)
noncomputable abbrev s11_3 : CC := (CC.seq (CC.region [(wB 33 (doBuild [(V.i IntKind.i64 (Int.ofNat 0)), (V.i IntKind.i64 (Int.ofNat 0)), (V.i IntKind.i64 (Int.ofNat 0)), (V.b Bool.false), V.l0] [])), (CO.mk G.none D.none Bool.true (CR.mk (doStore 5 (tm 2) (tm 33)))), (wB 3 (doMove (oN 0))), (wB 4 (doMove (oN 10)))]) CC.ret)
noncomputable abbrev s11_4 : CC := (CC.cond (tm 32) s11_3 CC.skip)
noncomputable abbrev s11_5 : CC := (CC.seq (CC.region [(wB 28 (doMove (tm 9))), (wB 29 (doMove (tm 0))), (wB 30 (doMove (tm 6))), (wB 31 (doSSlice (tm 29) none (some (tm 30)))), (wB 32 (doSCmp (fun a b c d => !eqS a b c d) (tm 28) (tm 31)))]) s11_4)
noncomputable abbrev s11_6 : CC := (CC.seq (CC.region [(wB 24 (doLoadA 5 (tm 8))), (wB 25 (doCall 9 [(tm 24)])), (wB 23 (doMove (tm 25))), (wB 26 (doExtract 0 (tm 23))), (wB 27 (doExtract 1 (tm 23))), (wB 9 (doMove (tm 26))), (wB 10 (doMove (tm 27)))]) s11_5)
noncomputable abbrev s11_7 : CC := (CC.seq (CC.region [(wB 34 (doLoadA 5 (tm 8))), (wB 35 (doMove (tm 6))), (CO.mk G.none D.none Bool.true (CR.mk (doStore 5 (tm 2) (tm 34)))), (wB 3 (doMove (tm 35))), (wB 4 (doMove (oN 0)))]) CC.ret)
noncomputable abbrev s11_8 : CC := (CC.seq s11_6 s11_7)
noncomputable abbrev s11_9 : CC := (CC.seq (CC.region [(wB 21 (doMove (tm 5))), (wB 22 (doCall 25 [(tm 21)])), (wB 8 (doAlloc 24 [(V.i IntKind.i64 (Int.ofNat 0)), (V.i IntKind.i64 (Int.ofNat 0)), (V.i IntKind.i64 (Int.ofNat 0)), (V.b Bool.false), V.l0])), (CO.mk G.none D.none Bool.true (CR.mk (doStore 5 (tm 8) (tm 22))))]) s11_8)
noncomputable abbrev s11_10 : CC := (CC.seq s11_2 s11_9)
noncomputable abbrev s11_11 : CC := (CC.seq (CC.region [(wB 12 (doMove (tm 0))), (wB 13 (doCall 24 [(tm 12)])), (wB 11 (doMove (tm 13))), (wB 14 (doExtract 0 (tm 11))), (wB 15 (doExtract 1 (tm 11))), (wB 16 (doExtract 2 (tm 11))), (wB 5 (doMove (tm 14))), (wB 6 (doMove (tm 15))), (wB 7 (doMove (tm 16)))]) s11_10)
noncomputable abbrev b11 : CC := (CC.seq (CC.region [(wB 2 (doAlloc 24 [(V.i IntKind.i64 (Int.ofNat 0)), (V.i IntKind.i64 (Int.ofNat 0)), (V.i IntKind.i64 (Int.ofNat 0)), (V.b Bool.false), V.l0])), (wB 3 (doMove (oN 0))), (wB 4 (doMove (oN 0)))]) s11_11)
theorem c11 : compFn Try.prog 11 = ⟨36, b11, [(Rs.cellA (slOf 2) 5), (Rs.tmp (slOf 3)), (Rs.tmp (slOf 4))]⟩ := by kernel_rfl
noncomputable abbrev s20_0 : CC := (CC.seq (CC.region [(wB 19 (doMove (tm 5))), (wB 20 (doCall 18 [(oN 1)])), (wB 21 (doCall 37 [(tm 19), (tm 20)])), (wB 2 (doMove (tm 21)))]) CC.ret)
noncomputable abbrev s20_1 : CC := (CC.seq (CC.region [(wB 14 (doMove (tm 3))), (wB 15 (doCall 24 [(tm 14)])), (wB 13 (doMove (tm 15))), (wB 16 (doExtract 0 (tm 13))), (wB 17 (doExtract 1 (tm 13))), (wB 18 (doExtract 2 (tm 13))), (wB 5 (doMove (tm 16))), (wB 6 (doMove (tm 17))), (wB 7 (doMove (tm 18)))]) s20_0)
noncomputable abbrev s20_2 : CC := (CC.seq (CC.region [(wB 9 (doMove (tm 0))), (wB 10 (doCall 36 [(oN 1), (tm 9)])), (wB 8 (doMove (tm 10))), (wB 11 (doExtract 0 (tm 8))), (wB 12 (doExtract 1 (tm 8))), (wB 3 (doMove (tm 11))), (wB 4 (doMove (tm 12)))]) s20_1)
noncomputable abbrev b20 : CC := (CC.seq (CC.region [(wB 2 (doMove (O.c (V.s 0 0))))]) s20_2)
theorem c20 : compFn Try.prog 20 = ⟨22, b20, [(Rs.tmp (slOf 2))]⟩ := by kernel_rfl
noncomputable abbrev s25_0 : CC := (CC.cond (tm 10) CC.skip (CC.exit 0))
noncomputable abbrev s25_1 : CC := (CC.seq (CC.region [(wB 9 (doMove (tm 5))), (wB 10 (bin2 fLss (tm 9) (oN 3)))]) s25_0)
noncomputable abbrev s25_2 : CC := (CC.region [(wB 28 (doMove (tm 5))), (wB 29 (bin2 fAdd (tm 28) (oN 1))), (wB 5 (doMove (tm 29)))])
noncomputable abbrev s25_3 : CC := (CC.seq (CC.region [(wB 25 (doMove (tm 4))), (wB 26 (doMove (tm 7))), (wB 27 (bin2 fAdd (tm 25) (tm 26))), (wB 4 (doMove (tm 27)))]) s25_2)
noncomputable abbrev s25_4 : CC := (CC.seq (CC.region [(wB 22 (doMove (tm 5))), (wB 23 (doMove (tm 6))), (wB 24 (doIndexAddrArr 3 1 (tm 3) (tm 22))), (CO.mk G.none D.none Bool.true (CR.mk (doStore 1 (tm 24) (tm 23))))]) s25_3)
noncomputable abbrev s25_5 : CC := (CC.cond (tm 20) s25_4 (CC.exit 0))
noncomputable abbrev s25_6 : CC := (CC.seq (CC.region [(wB 21 (bin2 fEql (tm 19) (oN 0))), (wB 20 (doMove (tm 21)))]) s25_5)
noncomputable abbrev s25_7 : CC := (CC.block 2 s25_6)
noncomputable abbrev s25_8 : CC := (CC.seq (CC.region [(wB 19 (doMove (tm 8)))]) s25_7)
noncomputable abbrev s25_9 : CC := (CC.seq (CC.region [(wB 12 (doMove (tm 0))), (wB 13 (doMove (tm 4))), (wB 14 (doSSlice (tm 12) (some (tm 13)) none)), (wB 15 (doCall 41 [(tm 14)])), (wB 11 (doMove (tm 15))), (wB 16 (doExtract 0 (tm 11))), (wB 17 (doExtract 1 (tm 11))), (wB 18 (doExtract 2 (tm 11))), (wB 6 (doMove (tm 16))), (wB 7 (doMove (tm 17))), (wB 8 (doMove (tm 18)))]) s25_8)
noncomputable abbrev s25_10 : CC := (CC.block 1 s25_9)
noncomputable abbrev l25_0 : CC := (CC.seq s25_1 s25_10)
noncomputable abbrev s25_11 : CC := (CC.loop l25_0)
noncomputable abbrev s25_12 : CC := (CC.block 0 s25_11)
noncomputable abbrev s25_13 : CC := (CC.seq (CC.region [(wB 38 (doBuild [(V.i IntKind.i64 (Int.ofNat 0)), (V.i IntKind.i64 (Int.ofNat 0)), (V.i IntKind.i64 (Int.ofNat 0)), (V.b Bool.false), V.l0] [])), (CO.mk G.none D.none Bool.true (CR.mk (doStore 5 (tm 2) (tm 38))))]) CC.ret)
noncomputable abbrev s25_14 : CC := (CC.cond (tm 37) s25_13 CC.skip)
noncomputable abbrev s25_15 : CC := (CC.seq (CC.region [(wB 30 (doMove (tm 5))), (wB 31 (bin2 fLss (tm 30) (oN 3))), (wB 32 (doMove (tm 31))), (wG 32 false 33 (doMove (tm 4))), (wG 32 false 34 (doMove (tm 0))), (wG 32 false 35 (doLenS (tm 34))), (wG 32 false 36 (bin2 fEql (tm 33) (tm 35))), (wB 37 (doPick (tm 32) (O.c (V.b Bool.true)) (tm 36)))]) s25_14)
noncomputable abbrev s25_16 : CC := (CC.seq (CC.draws [(uB 39 (doIndexAddrArr 3 1 (tm 3) (oN 0))), (uB 40 (doLoad (tm 39))), (uB 41 (doIndexAddrArr 3 1 (tm 3) (oN 1))), (uB 42 (doLoad (tm 41))), (uB 43 (doIndexAddrArr 3 1 (tm 3) (oN 2))), (uB 44 (doLoad (tm 43))), (uB 45 (doMove (tm 0))), (uB 46 (doMove (tm 4))), (uB 47 (doSIndex (tm 45) (tm 46))), (uB 48 (bin2 fEql (tm 47) (O.c (V.i IntKind.u8 (Int.ofNat 1))))), (uB 49 (doMove (tm 0))), (uB 50 (doMove (tm 4))), (uB 51 (bin2 fAdd (tm 50) (oN 1))), (uB 52 (doSSlice (tm 49) (some (tm 51)) none)), (uB 53 (doCall 42 [(tm 52)])), (uB 54 (doBuild [(V.i IntKind.i64 (Int.ofNat 0)), (V.i IntKind.i64 (Int.ofNat 0)), (V.i IntKind.i64 (Int.ofNat 0)), (V.b Bool.false), V.l0] [(Pt.mk 0 1 (tm 40)), (Pt.mk 1 1 (tm 42)), (Pt.mk 2 1 (tm 44)), (Pt.mk 3 1 (tm 48)), (Pt.mk 4 1 (tm 53))])), (CO.mk G.none D.none Bool.true (CR.mk (doStore 5 (tm 2) (tm 54))))] (some ([14, 16], [(1, [0, 15]), (3, [0, 15]), (5, [0, 15])]))) CC.ret)
noncomputable abbrev s25_17 : CC := (CC.seq s25_15 s25_16)
noncomputable abbrev s25_18 : CC := (CC.seq s25_12 s25_17)
noncomputable abbrev s25_19 : CC := (CC.seq CC.skip s25_18)
noncomputable abbrev s25_20 : CC := (CC.seq (CC.region [(wB 4 (doMove (oN 0))), (wB 5 (doMove (oN 0)))]) s25_19)
noncomputable abbrev s25_21 : CC := (CC.seq (CC.region [(wB 3 (doAlloc 55 [(V.i IntKind.i64 (Int.ofNat 0)), (V.i IntKind.i64 (Int.ofNat 0)), (V.i IntKind.i64 (Int.ofNat 0))]))]) s25_20)
noncomputable abbrev b25 : CC := (CC.seq (CC.region [(wB 2 (doAlloc 24 [(V.i IntKind.i64 (Int.ofNat 0)), (V.i IntKind.i64 (Int.ofNat 0)), (V.i IntKind.i64 (Int.ofNat 0)), (V.b Bool.false), V.l0]))]) s25_21)
theorem c25 : compFn Try.prog 25 = ⟨55, b25, [(Rs.cellA (slOf 2) 5)]⟩ := by kernel_rfl
noncomputable abbrev s42_0 : CC := (CC.seq (CC.region [(wB 17 (doMove (tm 4))), (wB 2 (doMove (tm 17)))]) CC.ret)
noncomputable abbrev s42_1 : CC := (CC.seq (CC.region [(wB 8 (doCall 18 [(oN 1)])), (wB 9 (doMove (tm 0))), (wB 10 (doConcat (tm 8) (tm 9))), (wB 11 (doCall 19 [(tm 10)])), (wB 12 (doCall 53 [(tm 11)])), (wB 7 (doMove (tm 12))), (wB 13 (doExtract 0 (tm 7))), (wB 14 (doExtract 1 (tm 7))), (wB 15 (doExtract 2 (tm 7))), (wB 16 (doExtract 3 (tm 7))), (wB 3 (doMove (tm 13))), (wB 4 (doMove (tm 14))), (wB 5 (doMove (tm 15))), (wB 6 (doMove (tm 16)))]) s42_0)
noncomputable abbrev b42 : CC := (CC.seq (CC.region [(wB 2 (doMove (O.c V.l0)))]) s42_1)
theorem c42 : compFn Try.prog 42 = ⟨18, b42, [(Rs.tmp (slOf 2))]⟩ := by kernel_rfl
noncomputable abbrev s32_0 : CC := (CC.seq (CC.region [(wB 3 (doFieldAddr 0 (tm 1))), (wB 4 (doLoad (tm 3))), (wB 5 (doLenS (tm 4))), (wB 6 (bin2 fGtr (tm 5) (oN 12))), (wB 2 (doMove (tm 6)))]) CC.ret)
noncomputable abbrev b32 : CC := (CC.seq (CC.region [(wB 1 (doBox 39 (tm 0))), (wB 2 (doMove (O.c (V.b Bool.false))))]) s32_0)
theorem c32 : compFn Try.prog 32 = ⟨7, b32, [(Rs.tmp (slOf 2))]⟩ := by kernel_rfl
noncomputable abbrev s31_0 : CC := (CC.seq (CC.region [(wB 5 (doMove (tm 0))), (wB 6 (doMove (tm 1))), (wB 7 (doCall 45 [(tm 5), (tm 6)])), (wB 8 (bin2 fGeq (tm 7) (oN 0))), (wB 4 (doMove (tm 8)))]) CC.ret)
noncomputable abbrev b31 : CC := (CC.seq (CC.region [(wB 4 (doMove (O.c (V.b Bool.false))))]) s31_0)
theorem c31 : compFn Try.prog 31 = ⟨9, b31, [(Rs.tmp (slOf 4))]⟩ := by kernel_rfl
noncomputable abbrev s45_0 : CC := (CC.cond (tm 9) CC.skip (CC.exit 0))
noncomputable abbrev s45_1 : CC := (CC.seq (CC.region [(wB 17 (doMove (tm 5))), (wB 4 (doMove (tm 17)))]) CC.ret)
noncomputable abbrev s45_2 : CC := (CC.cond (tm 16) s45_1 CC.skip)
noncomputable abbrev s45_3 : CC := (CC.seq (CC.region [(wB 11 (doMove (tm 1))), (wB 12 (doMove (tm 0))), (wB 13 (doMove (tm 5))), (wB 14 (doIndexAddr 3 (tm 12) (tm 13))), (wB 15 (doLoadA 3 (tm 14))), (wB 16 (doCallV (tm 11) [(tm 15)]))]) s45_2)
noncomputable abbrev s45_4 : CC := (CC.seq (CC.region [(wB 10 (doMove (tm 8))), (wB 5 (doMove (tm 10)))]) s45_3)
noncomputable abbrev s45_5 : CC := (CC.block 1 s45_4)
noncomputable abbrev s45_6 : CC := (CC.region [(wB 18 (bin2 fAdd (tm 8) (oN 1))), (wB 8 (doMove (tm 18)))])
noncomputable abbrev s45_7 : CC := (CC.seq s45_5 s45_6)
noncomputable abbrev s45_8 : CC := (CC.seq s45_0 s45_7)
noncomputable abbrev l45_0 : CC := (CC.seq (CC.region [(wB 9 (bin2 fLss (tm 8) (tm 7)))]) s45_8)
noncomputable abbrev s45_9 : CC := (CC.loop l45_0)
noncomputable abbrev s45_10 : CC := (CC.block 0 s45_9)
noncomputable abbrev s45_11 : CC := (CC.seq (CC.region [(wB 6 (doMove (tm 0))), (wB 7 (doLen (tm 6))), (wB 8 (doMove (oN 0)))]) s45_10)
noncomputable abbrev s45_12 : CC := (CC.seq (CC.region [(wB 4 (doMove (O.c (V.i IntKind.i64 (Int.negSucc 0)))))]) CC.ret)
noncomputable abbrev s45_13 : CC := (CC.seq s45_11 s45_12)
noncomputable abbrev b45 : CC := (CC.seq (CC.region [(wB 4 (doMove (oN 0)))]) s45_13)
theorem c45 : compFn Try.prog 45 = ⟨19, b45, [(Rs.tmp (slOf 4))]⟩ := by kernel_rfl
noncomputable abbrev s34_0 : CC := (CC.seq (CC.region [(wB 4 (doMove (O.c (V.b Bool.false))))]) CC.ret)
noncomputable abbrev s34_1 : CC := (CC.cond (tm 10) s34_0 CC.skip)
noncomputable abbrev s34_2 : CC := (CC.seq (CC.region [(wB 6 (doMove (tm 0))), (wB 7 (doLen (tm 6))), (wB 8 (doMove (tm 1))), (wB 9 (doLen (tm 8))), (wB 10 (bin2 fNeq (tm 7) (tm 9)))]) s34_1)
noncomputable abbrev s34_3 : CC := (CC.cond (tm 14) CC.skip (CC.exit 0))
noncomputable abbrev s34_4 : CC := (CC.seq (CC.region [(wB 4 (doMove (O.c (V.b Bool.false))))]) CC.ret)
noncomputable abbrev s34_5 : CC := (CC.cond (tm 24) s34_4 CC.skip)
noncomputable abbrev s34_6 : CC := (CC.seq (CC.draws [(uB 16 (doMove (tm 0))), (uB 17 (doMove (tm 5))), (uB 18 (doIndexAddr 3 (tm 16) (tm 17))), (uB 19 (doLoadA 3 (tm 18))), (uB 20 (doMove (tm 1))), (uB 21 (doMove (tm 5))), (uB 22 (doIndexAddr 3 (tm 20) (tm 21))), (uB 23 (doLoadA 3 (tm 22))), (uB 24 (doSEq [KD.s, KD.b, KD.s] Bool.true (tm 19) (tm 23)))] none) s34_5)
noncomputable abbrev s34_7 : CC := (CC.seq (CC.region [(wB 15 (doMove (tm 13))), (wB 5 (doMove (tm 15)))]) s34_6)
noncomputable abbrev s34_8 : CC := (CC.block 1 s34_7)
noncomputable abbrev s34_9 : CC := (CC.region [(wB 25 (bin2 fAdd (tm 13) (oN 1))), (wB 13 (doMove (tm 25)))])
noncomputable abbrev s34_10 : CC := (CC.seq s34_8 s34_9)
noncomputable abbrev s34_11 : CC := (CC.seq s34_3 s34_10)
noncomputable abbrev l34_0 : CC := (CC.seq (CC.region [(wB 14 (bin2 fLss (tm 13) (tm 12)))]) s34_11)
noncomputable abbrev s34_12 : CC := (CC.loop l34_0)
noncomputable abbrev s34_13 : CC := (CC.block 0 s34_12)
noncomputable abbrev s34_14 : CC := (CC.seq (CC.region [(wB 11 (doMove (tm 0))), (wB 12 (doLen (tm 11))), (wB 13 (doMove (oN 0)))]) s34_13)
noncomputable abbrev s34_15 : CC := (CC.seq (CC.region [(wB 4 (doMove (O.c (V.b Bool.true))))]) CC.ret)
noncomputable abbrev s34_16 : CC := (CC.seq s34_14 s34_15)
noncomputable abbrev s34_17 : CC := (CC.seq s34_2 s34_16)
noncomputable abbrev b34 : CC := (CC.seq (CC.region [(wB 4 (doMove (O.c (V.b Bool.false))))]) s34_17)
theorem c34 : compFn Try.prog 34 = ⟨26, b34, [(Rs.tmp (slOf 4))]⟩ := by kernel_rfl
noncomputable abbrev s37_0 : CC := (CC.seq (CC.region [(wB 5 (doMove (tm 0))), (wB 6 (doMove (tm 1))), (wB 7 (doCall 51 [(tm 5), (tm 6)])), (wB 4 (doMove (tm 7)))]) CC.ret)
noncomputable abbrev b37 : CC := (CC.seq (CC.region [(wB 4 (doMove (O.c (V.s 0 0))))]) s37_0)
theorem c37 : compFn Try.prog 37 = ⟨8, b37, [(Rs.tmp (slOf 4))]⟩ := by kernel_rfl
noncomputable abbrev s51_0 : CC := (CC.seq (CC.region [(wB 8 (doMove (tm 0))), (wB 9 (doMove (tm 1))), (wB 10 (doLenS (tm 9))), (wB 11 (doSSlice (tm 8) (some (tm 10)) none)), (wB 4 (doMove (tm 11)))]) CC.ret)
noncomputable abbrev s51_1 : CC := (CC.cond (tm 7) s51_0 CC.skip)
noncomputable abbrev s51_2 : CC := (CC.seq (CC.region [(wB 5 (doMove (tm 0))), (wB 6 (doMove (tm 1))), (wB 7 (doCall 56 [(tm 5), (tm 6)]))]) s51_1)
noncomputable abbrev s51_3 : CC := (CC.seq (CC.region [(wB 12 (doMove (tm 0))), (wB 4 (doMove (tm 12)))]) CC.ret)
noncomputable abbrev s51_4 : CC := (CC.seq s51_2 s51_3)
noncomputable abbrev b51 : CC := (CC.seq (CC.region [(wB 4 (doMove (O.c (V.s 0 0))))]) s51_4)
theorem c51 : compFn Try.prog 51 = ⟨13, b51, [(Rs.tmp (slOf 4))]⟩ := by kernel_rfl
noncomputable abbrev s56_0 : CC := (CC.seq (CC.region [(wB 5 (doMove (tm 0))), (wB 6 (doLenS (tm 5))), (wB 7 (doMove (tm 1))), (wB 8 (doLenS (tm 7))), (wB 9 (bin2 fGeq (tm 6) (tm 8))), (wB 10 (doMove (tm 9))), (wG 10 true 11 (doMove (tm 0))), (wG 10 true 12 (doMove (tm 1))), (wG 10 true 13 (doLenS (tm 12))), (wG 10 true 14 (doSSlice (tm 11) none (some (tm 13)))), (wG 10 true 15 (doMove (tm 1))), (wG 10 true 16 (doSCmp eqS (tm 14) (tm 15))), (wB 17 (doPick (tm 10) (tm 16) (O.c (V.b Bool.false)))), (wB 4 (doMove (tm 17)))]) CC.ret)
noncomputable abbrev b56 : CC := (CC.seq (CC.region [(wB 4 (doMove (O.c (V.b Bool.false))))]) s56_0)
theorem c56 : compFn Try.prog 56 = ⟨18, b56, [(Rs.tmp (slOf 4))]⟩ := by kernel_rfl
end Go.Proofs.Ytmlcddeikgechaa
