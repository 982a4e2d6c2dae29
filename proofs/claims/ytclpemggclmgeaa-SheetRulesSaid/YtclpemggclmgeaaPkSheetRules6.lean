/- Texts of ours, without what this claim does not use: Wq Wz NSt4 ShU JrL13 JrR9 Knravelinlaw13 NRu NRu2 ArgT SheetRules. No condition. -/
import Derived.Test.YtclpemggclmgeaaPkSheetRules5
import Derived.Test.YtclpemggclmgeaaProg
import Derived.KernelRfl
import Derived.Test.YtclpemggclmgeaaRows
import Derived.WalkKit
import Derived.ProofKit
import Derived.OpenShut
import Derived.ChangeMaps5
set_option linter.all false
namespace Go.Ev
open Go
section
variable {P : Program} {nt : Nat} {ops : Array Oper} {Ts : Nat → F}
/-- operations that leave memory alone, and make the same of h and of h2 -/
def Ops2 (P : Program) : List CO → F → H → H → F → Prop
  | [], t, _, _, t' => t' = t
  | o :: l, t, h, h2, t' => ∃ t1, OpRel P o t h t1 h ∧ OpRel P o t h2 t1 h2 ∧ Ops2 P l t1 h h2 t'
theorem stepOf {nt : Nat} {ops : Array Oper} {i : Nat} {o : Oper} (hi : ops[i]? = some o) {b : Bool} {t t1 : F} {h h1 : H} (a : OpRel P ⟨compG nt ops.toList o.guard, dOf nt o.dst, b, compOp P o.op⟩ t h t1 h1) : StepOk P nt ops i o true t t1 h h1 := by
  have a' : DrRel P ⟨compG nt ops.toList o.guard, dOf nt o.dst, true, compOp P o.op⟩ t h t1 h1 := a
  obtain ⟨cf, hcf, e⟩ := drRel_run a'
  obtain ⟨t1', h1', a1, a2⟩ := dr_step hcf hi (ih := fun t h k => k t h) (k := fun _ _ => true) (e _ _)
  obtain ⟨rfl, rfl⟩ := same_of (fun k => (e (fun t h k => k t h) k).symm.trans (a1 k))
  exact a2
theorem ops2_trace {nt : Nat} {ops : Array Oper} (bars : Nat → Bool) {h h2 : H} : ∀ (l : List Oper) (n : Nat) (rest : List Oper), ops.toList.drop n = l ++ rest → ∀ (t t' : F),
    Ops2 P (compOpsWith bars P nt ops.toList (compOp P) n l) t h h2 t' →
    ∃ Ts : Nat → F, Ts n = t ∧ Ts (n + l.length) = t' ∧ ∀ (i : Nat) o, n ≤ i → i < n + l.length → ops[i]? = some o → StepOk P nt ops i o true (Ts i) (Ts (i + 1)) h h ∧ StepOk P nt ops i o true (Ts i) (Ts (i + 1)) h2 h2 := by
  intro l
  induction l with
  | nil =>
    intro n rest hl t t' hk
    obtain rfl : t' = t := hk
    exact ⟨fun _ => t', rfl, rfl, fun i o h1 h2 => by simp at h2; omega⟩
  | cons o l ih =>
    intro n rest hl t t' hk
    have hn : ops[n]? = some o := by
      have : ops.toList[n]? = some o := by
        have := congrArg (fun l => l[0]?) hl
        simpa using this
      simpa using this
    obtain ⟨t1, k1, k2, k3⟩ := hk
    have hl' : ops.toList.drop (n + 1) = l ++ rest := by rw [← List.drop_drop, hl]; rfl
    obtain ⟨Ts, b1, b2, b3⟩ := ih (n + 1) rest hl' _ _ k3
    refine ⟨fun i => if i = n then t else Ts i, by simp, ?_, fun i oi h1 h2 hi => ?_⟩
    · have e1 : n + (o :: l).length = n + 1 + l.length := by simp; omega
      rw [e1]
      simp only [show ¬ n + 1 + l.length = n by omega, if_false]
      exact b2
    · by_cases hin : i = n
      · subst hin
        rw [hn] at hi
        cases hi
        simp only [if_true, show ¬ i + 1 = i by omega, if_false, b1]
        exact ⟨stepOf hn k1, stepOf hn k2⟩
      · simp only [hin, if_false, show ¬ i + 1 = n by omega]
        exact b3 i oi (by omega) (by simp at h2; omega) hi
/-- all but two leave memory alone; the second one comes behind all that touch it, or ahead of them -/
theorem dw_core (hm : P.follows .mixedOrders = true) {nt : Nat} {ops : Array Oper} (hd : drawsOk ops.toList = true) {t t1 t2 t3 t4 t5 : F} {h h2 h3 : H} {pre mid rest : List CO} {A : CO} {g : G} {d : D} {r : CR}
    (el : compOpsWith (barAt P ops.toList (befs ops.toList [])) P nt ops.toList (compOp P) 0 ops.toList = pre ++ A :: (mid ++ .mk g d true r :: rest))
    (p1 : Ops2 P pre t h h2 t1) (p2 : OpRel P A t1 h t2 h2) (p3 : Ops2 P mid t2 h h2 t3) (p4 : OpRel P (.mk g d true r) t3 h2 t4 h3) (p5 : Ops2 P rest t4 h3 h3 t5) : KeepF h h3 ∧ B.val h.next ≤ B.val h3.next ∧ ∀ ρ a w w0 (id : Nat) (Q : Exit → Act → World → Prop), ARel ρ nt t a → HRel ρ h w w0 → (∀ ρ' a' w', Ext h.floor ρ ρ' → ARel ρ' nt t5 a' → HRel ρ' h3 w' w0 → Q .normal a' w') → (Code.region id ops true).wp P Q a w := by
  obtain ⟨lp, l1, q1, q2, q3⟩ := cow_app el
  obtain ⟨oa, l2, rfl, q4, q5⟩ := cow_cons q3
  obtain ⟨lm, l3, rfl, q6, q7⟩ := cow_app q5
  obtain ⟨ob, lr, rfl, q8, q9⟩ := cow_cons q7
  rw [Nat.zero_add] at q4 q6 q8 q9
  have hop : ∀ (i : Nat) o, ops.toList[i]? = some o → ops[i]? = some o := fun i o e => by simpa using e
  generalize hb0 : lp.length + 1 + lm.length = b at *
  have hn : ops.size = b + 1 + lr.length := by have := congrArg List.length q1; simp at this; omega
  have ha : ops[lp.length]? = some oa := hop _ _ (by rw [q1]; simp)
  have hb : ops[b]? = some ob := hop _ _ (by rw [q1, ← hb0, List.getElem?_append_right (by omega), show lp.length + 1 + lm.length - lp.length = lm.length + 1 by omega, List.getElem?_cons_succ]; simp)
  obtain ⟨T0, b1, b2, b3⟩ := ops2_trace (P := P) (nt := nt) (ops := ops) (h := h) (h2 := h2) _ lp 0 _ (by rw [List.drop_zero]; exact q1) t t1 (by rw [q2]; exact p1)
  rw [Nat.zero_add] at b2 b3
  obtain ⟨T1, c1, c2, c3⟩ := ops2_trace (P := P) (nt := nt) (ops := ops) (h := h) (h2 := h2) _ lm (lp.length + 1) _ (by rw [q1, ← List.drop_drop, List.drop_left]; rfl) t2 t3 (by rw [q6]; exact p3)
  obtain ⟨T2, d1, d2, d3⟩ := ops2_trace (P := P) (nt := nt) (ops := ops) (h := h3) (h2 := h3) _ lr (b + 1) [] (by rw [q1, ← hb0, List.append_nil, show lp.length + 1 + lm.length + 1 = lp.length + (1 + (lm.length + 1)) by omega, ← List.drop_drop, List.drop_left, ← List.drop_drop, List.drop_one, List.tail_cons, ← List.drop_drop, List.drop_left]; rfl) t4 t5 (by rw [q9]; exact p5)
  rw [hb0] at c2 c3
  have hbar : barAt P ops.toList (befs ops.toList []) b = true := by
    injection q8 with _ _ e _
    exact e.symm
  have SA := stepOf ha (by rw [q4] at p2; exact p2)
  have SB := stepOf hb (by have e := q8; rw [hbar] at e; rw [e] at p4; exact p4)
  let Ts : Nat → F := fun i => if i ≤ lp.length then T0 i else if i ≤ b then T1 i else T2 i
  have U0 : ∀ i, i ≤ lp.length → Ts i = T0 i := fun i hi => if_pos hi
  have U1 : ∀ i, lp.length < i → i ≤ b → Ts i = T1 i := fun i hi hj => by
    show (if _ then _ else _) = _
    rw [if_neg (by omega), if_pos hj]
  have U2 : ∀ i, b < i → Ts i = T2 i := fun i hi => by
    show (if _ then _ else _) = _
    rw [if_neg (by omega), if_neg (by omega)]
  have hA : ∀ o, ops[lp.length]? = some o → StepOk P nt ops lp.length o true (Ts lp.length) (Ts (lp.length + 1)) h h2 := fun o ho => by
    rw [ha] at ho; cases ho
    rw [U0 _ (Nat.le_refl _), U1 _ (by omega) (by omega), b2, c1]; exact SA
  have hB : ∀ o, ops[b]? = some o → StepOk P nt ops b o true (Ts b) (Ts (b + 1)) h2 h3 := fun o ho => by
    rw [hb] at ho; cases ho
    rw [U1 _ (by omega) (Nat.le_refl _), U2 _ (by omega), c2, d1]; exact SB
  obtain ⟨f1, f2, f3⟩ := dual_ok (nt := nt) (ops := ops) (Ts := Ts) (n := lp.length) (p := b) (h := h) (h2 := h2) (h3 := h3) hm hd (by omega) (by omega) hbar
    (fun i o hi hne ho => by
      by_cases e : i < lp.length
      · rw [U0 i (by omega), U0 (i + 1) (by omega)]
        exact b3 i o (Nat.zero_le _) e ho
      · rw [U1 i (by omega) (by omega), U1 (i + 1) (by omega) (by omega)]
        exact c3 i o (by omega) hi ho)
    (fun i o hi ho => by
      have : i < ops.size := (Array.getElem?_eq_some_iff.1 ho).1
      rw [U2 i hi, U2 (i + 1) (by omega)]
      exact (d3 i o (by omega) (by omega) ho).1) hA hB
  exact ⟨f1, f2, fun ρ a w w0 id Q A R hQ => f3 ρ a w w0 id Q (by rw [U0 0 (Nat.zero_le _), b1]; exact A) R (by rw [hn, U2 _ (by omega), d2]; exact hQ)⟩
theorem Ok.dw1 (hm : P.follows .mixedOrders = true) {nt : Nat} {t t1 t2 t3 t4 t5 : F} {h h2 h3 : H} {K : X → F → H → Prop} {pre mid rest : List CO} {A : CO} {g : G} {d : D} {r : CR} {ch : Option (List Nat × List (Nat × List Nat))} 
    (p1 : Ops2 P pre t h h2 t1) (p2 : OpRel P A t1 h t2 h2) (p3 : Ops2 P mid t2 h h2 t3) (p4 : OpRel P (.mk g d true r) t3 h2 t4 h3) (p5 : Ops2 P rest t4 h3 h3 t5) (k : K .normal t5 h3) : Ok P nt (.draws (pre ++ A :: (mid ++ .mk g d true r :: rest)) ch) t h K := by
  refine ⟨.normal, t5, h3, by_scopes _ fun c e' hs => ?_, k⟩
  cases c with
  | region id ops draw =>
    have e1 : compRegion P nt ops.toList draw = .draws (pre ++ A :: (mid ++ .mk g d true r :: rest)) ch := e'
    unfold compRegion at e1
    split at e1
    · cases e1
    · split at e1
      · rename_i hd
        obtain ⟨f1, f2, f3⟩ := dw_core hm hd (CC.draws.inj e1).1 p1 p2 p3 p4 p5
        exact ⟨f1, f2, fun ρ a w w0 Q A R hQ => f3 ρ a w w0 id Q A R hQ⟩
      · cases e1
  | scope d => exact absurd rfl (hs d)
  | _ => cases e'
/-- a region that draws, where the walk stops -/
def DW (P : Program) (nt : Nat) (l : List CO) (t : F) (h : H) (K : X → F → H → Prop) : Prop := ∀ ch, Ok P nt (.draws l ch) t h K
theorem DW.gen (hm : P.follows .mixedOrders = true) {nt : Nat} {t t1 t2 t3 t4 t5 : F} {h h2 h3 : H} {K : X → F → H → Prop} {l pre mid rest : List CO} {A : CO} {g : G} {d : D} {r : CR} (hl : l = pre ++ A :: (mid ++ .mk g d true r :: rest))
    (p1 : Ops2 P pre t h h2 t1) (p2 : OpRel P A t1 h t2 h2) (p3 : Ops2 P mid t2 h h2 t3) (p4 : OpRel P (.mk g d true r) t3 h2 t4 h3) (p5 : Ops2 P rest t4 h3 h3 t5) (k : K .normal t5 h3) : DW P nt l t h K := by
  intro ch
  rw [hl]
  exact Ok.dw1 hm p1 p2 p3 p4 p5 k
theorem DW.two (hm : P.follows .mixedOrders = true) {nt : Nat} {t t1 t2 t3 : F} {h h2 h3 : H} {K : X → F → H → Prop} {l pre : List CO} {A : CO} {g : G} {d : D} {r : CR} (hl : l = pre ++ [A, .mk g d true r])
    (p1 : Ops2 P pre t h h2 t1) (p2 : OpRel P A t1 h t2 h2) (p3 : OpRel P (.mk g d true r) t2 h2 t3 h3) (k : K .normal t3 h3) : DW P nt l t h K := DW.gen (mid := []) (rest := []) hm hl p1 p2 rfl p3 rfl k
section
variable {r : Run} {t t' : F} {h h1 h2 : H} {v : V} {n : Nat} {b : Bool} {l : List CO}
theorem opRel_c (a : RunRel P (.mk r) t h v h1) : OpRel P (.mk .none (.some (slOf n)) b (.mk r)) t h (put n v t) h1 := ⟨true, fun _ => rfl, .inl ⟨rfl, v, a, fun k => putS k⟩⟩
theorem opRel_0 (a : RunRel P (.mk r) t h v h1) : OpRel P (.mk .none .none b (.mk r)) t h t h1 := ⟨true, fun _ => rfl, .inl ⟨rfl, v, a, fun k => rfl⟩⟩
theorem or_run {K : F → H → Prop} (a : OR P r t h (.w0 [] t K)) : ∃ v h', RunRel P (.mk r) t h v h' ∧ K t h' := by
  obtain ⟨v, h', rr, k⟩ := a
  rw [go_w0, wo_nil] at k
  exact ⟨v, h', rr, k⟩
theorem rv_of (a : OR P r t h (.w 0 [] F.zero fun t' h' => get 0 t' = v ∧ h' = h)) : RunRel P (.mk r) t h v h := by
  obtain ⟨v', h', rr, k⟩ := a
  rw [go_w, wo_nil, get_put', if_pos rfl] at k
  obtain ⟨rfl, rfl⟩ := k
  exact rr
end
end
end Go.Ev

set_option linter.all false
namespace Go.Ev
open Go
section
variable {P : Program}
/-- all but one leave memory alone -/
theorem Ok.dw0 (hm : P.follows .mixedOrders = true) {nt : Nat} {t t1 t2 t3 : F} {h h2 : H} {K : X → F → H → Prop} {pre mid : List CO} {A : CO} {ch : Option (List Nat × List (Nat × List Nat))} 
    (p1 : Ops2 P pre t h h2 t1) (p2 : OpRel P A t1 h t2 h2) (p3 : Ops2 P mid t2 h h2 t3) (k : K .normal t3 h2) : Ok P nt (.draws (pre ++ A :: mid) ch) t h K := by
  refine ⟨.normal, t3, h2, by_scopes _ fun c e' hs => ?_, k⟩
  cases c with
  | region id ops draw =>
    have e1 : compRegion P nt ops.toList draw = .draws (pre ++ A :: mid) ch := e'
    unfold compRegion at e1
    split at e1
    · cases e1
    · split at e1
      · rename_i hd
        obtain ⟨lp, l1, q1, q2, q3⟩ := cow_app (CC.draws.inj e1).1
        obtain ⟨oa, lm, rfl, q4, q6⟩ := cow_cons q3
        rw [Nat.zero_add] at q4 q6
        have hop : ∀ (i : Nat) o, ops.toList[i]? = some o → ops[i]? = some o := fun i o e => by simpa using e
        have hn : ops.size = lp.length + 1 + lm.length := by have := congrArg List.length q1; simp at this; omega
        have ha : ops[lp.length]? = some oa := hop _ _ (by rw [q1]; simp)
        obtain ⟨T0, b1, b2, b3⟩ := ops2_trace (P := P) (nt := nt) (ops := ops) (h := h) (h2 := h2) _ lp 0 _ (by rw [List.drop_zero]; exact q1) t t1 (by rw [q2]; exact p1)
        rw [Nat.zero_add] at b2 b3
        obtain ⟨T1, c1, c2, c3⟩ := ops2_trace (P := P) (nt := nt) (ops := ops) (h := h) (h2 := h2) _ lm (lp.length + 1) [] (by rw [q1, ← List.drop_drop, List.drop_left, List.append_nil]; rfl) t2 t3 (by rw [q6]; exact p3)
        have SA := stepOf ha (by rw [q4] at p2; exact p2)
        let Ts : Nat → F := fun i => if i ≤ lp.length then T0 i else T1 i
        have U0 : ∀ i, i ≤ lp.length → Ts i = T0 i := fun i hi => if_pos hi
        have U1 : ∀ i, lp.length < i → Ts i = T1 i := fun i hi => by
          show (if _ then _ else _) = _
          rw [if_neg (by omega)]
        have hA : ∀ o, ops[lp.length]? = some o → StepOk P nt ops lp.length o true (Ts lp.length) (Ts (lp.length + 1)) h h2 := fun o ho => by
          rw [ha] at ho; cases ho
          rw [U0 _ (Nat.le_refl _), U1 _ (by omega), b2, c1]; exact SA
        have hq : ∀ (i : Nat) o, i ≠ lp.length → ops[i]? = some o → StepOk P nt ops i o true (Ts i) (Ts (i + 1)) h h ∧ StepOk P nt ops i o true (Ts i) (Ts (i + 1)) h2 h2 := fun i o hne ho => by
          have hi : i < ops.size := (Array.getElem?_eq_some_iff.1 ho).1
          by_cases e : i < lp.length
          · rw [U0 i (by omega), U0 (i + 1) (by omega)]
            exact b3 i o (Nat.zero_le _) e ho
          · rw [U1 i (by omega), U1 (i + 1) (by omega)]
            exact c3 i o (by omega) (by omega) ho
        have hs : Frm nt ops Ts := fun i o ho => by
          have S : ∃ g g', StepOk P nt ops i o true (Ts i) (Ts (i + 1)) g g' := by
            by_cases e : i = lp.length
            · subst e; exact ⟨_, _, hA o ho⟩
            · exact ⟨_, _, (hq i o e ho).1⟩
          obtain ⟨g, g', S⟩ := S
          exact ⟨S.dst, S.rest⟩
        let Hs : Nat → H := fun i => if i ≤ lp.length then h else h2
        have V0 : ∀ i, i ≤ lp.length → Hs i = h := fun i hi => if_pos hi
        have V1 : ∀ i, lp.length < i → Hs i = h2 := fun i h1 => if_neg (by omega)
        have R := chain_ok (nt := nt) (ops := ops) (Ts := Ts) (Hs := Hs) (lo := fun k => k = lp.length) hm hd hs (fun i j hi hj hij _ => by omega)
          (fun i o hi ho => by
            have hi : i = lp.length := hi
            subst hi
            rw [V0 _ (Nat.le_refl _), V1 _ (by omega)]; exact hA o ho)
          (fun i hi hl => by
            have hl : ¬ i = lp.length := hl
            by_cases e : i < lp.length
            · rw [V0 _ (by omega), V0 _ (by omega)]
            · rw [V1 _ (by omega), V1 _ (by omega)])
          (fun i o hl ho => by
            obtain ⟨x1, x2⟩ := hq i o hl ho
            refine ⟨⟨_, _, x1⟩, .inr fun c _ _ _ => ?_⟩
            by_cases e : c ≤ lp.length
            · rw [V0 _ e]; exact x1
            · rw [V1 _ (by omega)]; exact x2)
        rw [V0 0 (Nat.zero_le _), V1 ops.size (by omega)] at R
        obtain ⟨f1, f2, f3⟩ := R
        exact ⟨f1, f2, fun ρ a w w0 Q A R hQ => f3 ρ a w w0 id Q (by rw [U0 0 (Nat.zero_le _), b1]; exact A) R (by rw [hn, U1 _ (by omega), c2]; exact hQ)⟩
      · cases e1
  | scope d => exact absurd rfl (hs d)
  | _ => cases e'
theorem DW.one (hm : P.follows .mixedOrders = true) {nt : Nat} {t t1 t2 t3 : F} {h h2 : H} {K : X → F → H → Prop} {l pre mid : List CO} {A : CO} (hl : l = pre ++ A :: mid)
    (p1 : Ops2 P pre t h h2 t1) (p2 : OpRel P A t1 h t2 h2) (p3 : Ops2 P mid t2 h h2 t3) (k : K .normal t3 h2) : DW P nt l t h K := by
  intro ch
  rw [hl]
  exact Ok.dw0 hm p1 p2 p3 k
theorem opRel_quiet {nt : Nat} {ops : List Oper} {o : Oper} {b : Bool} {t t1 : F} {h h1 : H} (hq : quiet P o.op = true) (a : OpRel P ⟨compG nt ops o.guard, dOf nt o.dst, b, compOp P o.op⟩ t h t1 h1) : h1 = h := by
  obtain ⟨c, _, a⟩ := a
  rcases a with ⟨_, v, ⟨cf, hcf, e⟩, _⟩ | ⟨_, e, _⟩
  · exact quiet_ok hq hcf e
  · exact e
theorem quiet_ops {nt : Nat} {ops : Array Oper} (bars : Nat → Bool) {h : H} : ∀ (l : List Oper) (n : Nat) (rest : List Oper), ops.toList.drop n = l ++ rest → (∀ o ∈ l, quiet P o.op = true) → ∀ (t t' : F) (h' : H),
    OpsRel P (compOpsWith bars P nt ops.toList (compOp P) n l) t h t' h' →
    h' = h ∧ ∃ Ts : Nat → F, Ts n = t ∧ Ts (n + l.length) = t' ∧ ∀ (i : Nat) o, n ≤ i → i < n + l.length → ops[i]? = some o → StepOk P nt ops i o true (Ts i) (Ts (i + 1)) h h := by
  intro l
  induction l with
  | nil =>
    intro n rest hl _ t t' h' hk
    obtain ⟨rfl, rfl⟩ := hk
    exact ⟨rfl, fun _ => t', rfl, rfl, fun i o h1 h2 => by simp at h2; omega⟩
  | cons o l ih =>
    intro n rest hl hq t t' h' hk
    have hn : ops[n]? = some o := by
      have : ops.toList[n]? = some o := by
        have := congrArg (fun l => l[0]?) hl
        simpa using this
      simpa using this
    obtain ⟨t1, h1, k1, k2⟩ := hk
    obtain rfl := opRel_quiet (hq o (by simp)) k1
    have hl' : ops.toList.drop (n + 1) = l ++ rest := by rw [← List.drop_drop, hl]; rfl
    obtain ⟨e, Ts, b1, b2, b3⟩ := ih (n + 1) rest hl' (fun x hx => hq x (List.mem_cons_of_mem _ hx)) _ _ _ k2
    refine ⟨e, fun i => if i = n then t else Ts i, by simp, ?_, fun i oi h1 h2 hi => ?_⟩
    · have e1 : n + (o :: l).length = n + 1 + l.length := by simp; omega
      rw [e1]
      simp only [show ¬ n + 1 + l.length = n by omega, if_false]
      exact b2
    · by_cases hin : i = n
      · subst hin
        rw [hn] at hi
        cases hi
        simp only [if_true, show ¬ i + 1 = i by omega, if_false, b1]
        exact stepOf hn k1
      · simp only [hin, if_false, show ¬ i + 1 = n by omega]
        exact b3 i oi (by omega) (by simp at h2; omega) hi
/-- two that write, A and B; one that reads, o, may come ahead of A or behind it -/
theorem Ok.float (hm : P.follows .mixedOrders = true) {nt : Nat} {t : F} {h : H} {K : X → F → H → Prop} {l L1 L2 L3 : List CO} {o A B : CO} {ld : List Nat} {cs : List (Nat × List Nat)} {n p : Nat} (hl : l = L1 ++ o :: (L2 ++ A :: (L3 ++ [B])))
    (hn : n = L1.length + 1 + L2.length) (hp : p = n + 1 + L3.length) (hlo : ld = [n, p])
    (hcs : cs.all (fun q => (decide (q.1 = L1.length) && q.2.all fun j => decide (j ≤ p)) || ((decide (q.1 ≠ L1.length ∧ q.1 < n) && q.2.all fun j => decide (j ≤ n)) || (decide (n < q.1 ∧ q.1 < p) && q.2.all fun j => decide (n < j ∧ j ≤ p)))) = true)
    (k : WO P L1 t h fun t1 _ => ∃ t2, OpRel P o t1 h t2 h ∧ WO P L2 t2 h fun t3 _ => ∃ t4 h2, OpRel P A t3 h t4 h2 ∧ OpRel P o t1 h2 t2 h2 ∧ WO P L3 t4 h2 fun t5 _ => ∃ t6 h3, OpRel P B t5 h2 t6 h3 ∧ K .normal t6 h3) : Ok P nt (.draws l (some (ld, cs))) t h K := by
  obtain ⟨t1, g1, k1, t2, k2, t3, g3, k3, t4, h2, k4, k5, t5, g5, k6, t6, h3, k7, kk⟩ := k
  refine ⟨.normal, t6, h3, by_scopes _ fun c e' hs => ?_, kk⟩
  cases c with
  | region id ops draw =>
    have e1 : compRegion P nt ops.toList draw = .draws l (some (ld, cs)) := e'
    unfold compRegion at e1
    split at e1
    · cases e1
    · split at e1
      · rename_i hd
        obtain ⟨e2, ec⟩ := CC.draws.inj e1
        rw [hl] at e2
        obtain ⟨l1, r1, q1, q2, q3⟩ := cow_app e2
        obtain ⟨oo, r2, rfl, q4, q5⟩ := cow_cons q3
        obtain ⟨l2, r3, rfl, q6, q7⟩ := cow_app q5
        obtain ⟨oa, r4, rfl, q8, q9⟩ := cow_cons q7
        obtain ⟨l3, r5, rfl, q10, q11⟩ := cow_app q9
        obtain ⟨ob, r6, rfl, q12, q13⟩ := cow_cons q11
        have cl : ∀ (bars : Nat → Bool) (l : List Oper) (n : Nat), (compOpsWith bars P nt ops.toList (compOp P) n l).length = l.length := by
          intro bars l
          induction l with
          | nil => intro n; rfl
          | cons o l ih => intro n; show (compOpsWith bars P nt ops.toList (compOp P) (n + 1) l).length + 1 = _; rw [ih]; rfl
        have c1 : L1.length = l1.length := by rw [← q2, cl]
        have c2 : L2.length = l2.length := by rw [← q6, cl]
        have c3 : L3.length = l3.length := by rw [← q10, cl]
        obtain rfl : r6 = [] := by
          cases r6 with
          | nil => rfl
          | cons x r => have := congrArg List.length q13; rw [cl] at this; simp at this
        rw [c1] at hcs
        rw [Nat.zero_add] at q4 q6 q8 q10 q12
        obtain rfl : n = l1.length + 1 + l2.length := by omega
        obtain rfl : p = l1.length + 1 + l2.length + 1 + l3.length := by omega
        have hsz : ops.size = l1.length + 1 + l2.length + 1 + l3.length + 1 := by have := congrArg List.length q1; simp at this; omega
        have hop : ∀ (i : Nat) o, ops.toList[i]? = some o → ops[i]? = some o := fun i o e => by simpa using e
        have gl : ∀ i : Nat, ops.toList[i]? = (l1 ++ oo :: (l2 ++ oa :: (l3 ++ [ob])))[i]? := fun i => by rw [q1]
        have ho : ops[l1.length]? = some oo := hop _ _ (by rw [gl]; simp)
        have ha : ops[l1.length + 1 + l2.length]? = some oa := hop _ _ (by rw [gl, List.getElem?_append_right (by omega), show l1.length + 1 + l2.length - l1.length = l2.length + 1 by omega, List.getElem?_cons_succ]; simp)
        have hb : ops[l1.length + 1 + l2.length + 1 + l3.length]? = some ob := hop _ _ (by rw [gl, List.getElem?_append_right (by omega), show l1.length + 1 + l2.length + 1 + l3.length - l1.length = (l2.length + 1 + l3.length) + 1 by omega, List.getElem?_cons_succ, List.getElem?_append_right (by omega), show l2.length + 1 + l3.length - l2.length = l3.length + 1 by omega, List.getElem?_cons_succ]; simp)
        have hld : ld = loudsOf P 0 ops.toList := by
          unfold chainOf at ec
          split at ec
          · cases ec; rfl
          · cases ec
        rw [hlo] at hld
        have hqt : ∀ (i : Nat) x, ops[i]? = some x → i ≠ l1.length + 1 + l2.length → i ≠ l1.length + 1 + l2.length + 1 + l3.length → quiet P x.op = true := fun i x hx n1 n2 => by
          cases hq : quiet P x.op with
          | true => rfl
          | false =>
            have : i ∈ loudsOf P 0 ops.toList := louds_mem.2 ⟨i, x, by omega, (Array.getElem?_toList (xs := ops) (i := i)).trans hx, hq⟩
            rw [← hld] at this
            simp only [List.mem_cons, List.not_mem_nil, or_false] at this
            omega
        have hlq : ∀ (i : Nat) x, ops[i]? = some x → quiet P x.op = true → i ≠ l1.length + 1 + l2.length ∧ i ≠ l1.length + 1 + l2.length + 1 + l3.length := fun i x hx hq => by
          have no : i ∉ loudsOf P 0 ops.toList := fun hi => by
            obtain ⟨j, y, e1, e2, e3⟩ := louds_mem.1 hi
            have e4 : ops[j]? = some y := hop _ _ e2
            rw [show j = i by omega, hx] at e4
            cases e4; rw [hq] at e3; cases e3
          rw [← hld] at no
          simp only [List.mem_cons, List.not_mem_nil, or_false, not_or] at no
          exact no
        have Q1 : ∀ x ∈ l1, quiet P x.op = true := fun x hx => by
          obtain ⟨i, hi, e⟩ := List.mem_iff_getElem.1 hx
          exact hqt i x (hop _ _ (by rw [gl, List.getElem?_append_left hi, List.getElem?_eq_getElem hi, e])) (by omega) (by omega)
        have Q2 : ∀ x ∈ l2, quiet P x.op = true := fun x hx => by
          obtain ⟨i, hi, e⟩ := List.mem_iff_getElem.1 hx
          exact hqt (l1.length + 1 + i) x (hop _ _ (by rw [gl, List.getElem?_append_right (by omega), show l1.length + 1 + i - l1.length = i + 1 by omega, List.getElem?_cons_succ, List.getElem?_append_left hi, List.getElem?_eq_getElem hi, e])) (by omega) (by omega)
        have Q3 : ∀ x ∈ l3, quiet P x.op = true := fun x hx => by
          obtain ⟨i, hi, e⟩ := List.mem_iff_getElem.1 hx
          exact hqt (l1.length + 1 + l2.length + 1 + i) x (hop _ _ (by rw [gl, List.getElem?_append_right (by omega), show l1.length + 1 + l2.length + 1 + i - l1.length = (l2.length + 1 + i) + 1 by omega, List.getElem?_cons_succ, List.getElem?_append_right (by omega), show l2.length + 1 + i - l2.length = i + 1 by omega, List.getElem?_cons_succ, List.getElem?_append_left hi, List.getElem?_eq_getElem hi, e])) (by omega) (by omega)
        have d1 : ops.toList.drop (l1.length + 1) = l2 ++ (oa :: (l3 ++ [ob])) := by rw [q1, ← List.drop_drop, List.drop_left]; rfl
        have d2 : ops.toList.drop (l1.length + 1 + l2.length + 1) = l3 ++ [ob] := by rw [← List.drop_drop, ← List.drop_drop, d1, List.drop_left]; rfl
        obtain ⟨z1, T1, a1, a2, a3⟩ := quiet_ops (P := P) (nt := nt) (ops := ops) (h := h) _ l1 0 _ (by rw [List.drop_zero]; exact q1) Q1 t t1 g1 (by rw [q2]; exact k1)
        rw [Nat.zero_add] at a2 a3
        obtain ⟨z2, T2, b1, b2, b3⟩ := quiet_ops (P := P) (nt := nt) (ops := ops) (h := h) _ l2 (l1.length + 1) _ d1 Q2 t2 t3 g3 (by rw [q6]; exact k3)
        obtain ⟨z3, T3, c4, c5, c6⟩ := quiet_ops (P := P) (nt := nt) (ops := ops) (h := h2) _ l3 (l1.length + 1 + l2.length + 1) _ d2 Q3 t4 t5 g5 (by rw [q10]; exact k6)
        rw [q4] at k2 k5
        rw [q8] at k4
        rw [q12] at k7
        let Ts : Nat → F := fun i => if i ≤ l1.length then T1 i else if i ≤ l1.length + 1 + l2.length then T2 i else if i ≤ l1.length + 1 + l2.length + 1 + l3.length then T3 i else t6
        let Hs : Nat → H := fun i => if i ≤ l1.length + 1 + l2.length then h else if i ≤ l1.length + 1 + l2.length + 1 + l3.length then h2 else h3
        have U1 : ∀ i, i ≤ l1.length → Ts i = T1 i := fun i hi => if_pos hi
        have U2 : ∀ i, l1.length < i → i ≤ l1.length + 1 + l2.length → Ts i = T2 i := fun i hi hj => by
          show (if _ then _ else _) = _
          rw [if_neg (by omega), if_pos hj]
        have U3 : ∀ i, l1.length + 1 + l2.length < i → i ≤ l1.length + 1 + l2.length + 1 + l3.length → Ts i = T3 i := fun i hi hj => by
          show (if _ then _ else _) = _
          rw [if_neg (by omega), if_neg (by omega), if_pos hj]
        have U4 : ∀ i, l1.length + 1 + l2.length + 1 + l3.length < i → Ts i = t6 := fun i hi => by
          show (if _ then _ else _) = _
          rw [if_neg (by omega), if_neg (by omega), if_neg (by omega)]
        have V1 : ∀ i, i ≤ l1.length + 1 + l2.length → Hs i = h := fun i hi => if_pos hi
        have V2 : ∀ i, l1.length + 1 + l2.length < i → i ≤ l1.length + 1 + l2.length + 1 + l3.length → Hs i = h2 := fun i hi hj => by
          show (if _ then _ else _) = _
          rw [if_neg (by omega), if_pos hj]
        have V3 : ∀ i, l1.length + 1 + l2.length + 1 + l3.length < i → Hs i = h3 := fun i hi => by
          show (if _ then _ else _) = _
          rw [if_neg (by omega), if_neg (by omega)]
        have So : StepOk P nt ops l1.length oo true (Ts l1.length) (Ts (l1.length + 1)) h h ∧ StepOk P nt ops l1.length oo true (Ts l1.length) (Ts (l1.length + 1)) h2 h2 := by
          rw [U1 _ (Nat.le_refl _), U2 _ (by omega) (by omega), a2, b1]
          exact ⟨stepOf ho k2, stepOf ho k5⟩
        have Sq : ∀ (i : Nat) x, ops[i]? = some x → i ≠ l1.length + 1 + l2.length → i ≠ l1.length + 1 + l2.length + 1 + l3.length → StepOk P nt ops i x true (Ts i) (Ts (i + 1)) (Hs i) (Hs i) := fun i x hx n1 n2 => by
          have hi : i < ops.size := (Array.getElem?_eq_some_iff.1 hx).1
          by_cases e1 : i < l1.length
          · rw [U1 _ (by omega), U1 _ (by omega), V1 _ (by omega)]; exact a3 i x (Nat.zero_le _) e1 hx
          · by_cases e2 : i = l1.length
            · subst e2
              rw [ho] at hx; cases hx
              rw [V1 _ (by omega)]; exact So.1
            · by_cases e3 : i < l1.length + 1 + l2.length
              · rw [U2 _ (by omega) (by omega), U2 _ (by omega) (by omega), V1 _ (by omega)]; exact b3 i x (by omega) e3 hx
              · rw [U3 _ (by omega) (by omega), U3 _ (by omega) (by omega), V2 _ (by omega) (by omega)]; exact c6 i x (by omega) (by omega) hx
        obtain ⟨f1, f2, f3⟩ := chain_of (nt := nt) (ops := ops) (Ts := Ts) (Hs := Hs) hm hd ec
          (fun i x hx => by
            by_cases n1 : i = l1.length + 1 + l2.length
            · subst n1
              rw [ha] at hx; cases hx
              refine ⟨?_, fun hq => absurd rfl (hlq _ _ ha hq).1⟩
              rw [U2 _ (by omega) (Nat.le_refl _), U3 _ (by omega) (by omega), V1 _ (Nat.le_refl _), V2 _ (by omega) (by omega), b2, c4]
              exact stepOf ha k4
            · by_cases n2 : i = l1.length + 1 + l2.length + 1 + l3.length
              · subst n2
                rw [hb] at hx; cases hx
                refine ⟨?_, fun hq => absurd rfl (hlq _ _ hb hq).2⟩
                rw [U3 _ (by omega) (Nat.le_refl _), U4 _ (by omega), V2 _ (by omega) (Nat.le_refl _), V3 _ (by omega), c5]
                exact stepOf hb k7
              · have same : Hs (i + 1) = Hs i := by
                  have hi : i < ops.size := (Array.getElem?_eq_some_iff.1 hx).1
                  by_cases e : i < l1.length + 1 + l2.length
                  · rw [V1 _ (by omega), V1 _ (by omega)]
                  · rw [V2 _ (by omega) (by omega), V2 _ (by omega) (by omega)]
                exact ⟨by rw [same]; exact Sq i x hx n1 n2, fun _ => same⟩)
          (fun q hq x hx j hj => by
            have := List.all_eq_true.1 hcs q hq
            simp only [Bool.or_eq_true, Bool.and_eq_true, decide_eq_true_eq, List.all_eq_true] at this
            rcases this with ⟨e1, e2⟩ | ⟨⟨e1, e3⟩, e2⟩ | ⟨⟨e1, e3⟩, e2⟩
            · rw [e1] at hx ⊢
              rw [ho] at hx; cases hx
              have := e2 j hj
              by_cases e : j ≤ l1.length + 1 + l2.length
              · rw [V1 _ e]; exact So.1
              · rw [V2 _ (by omega) this]; exact So.2
            · have := Sq q.1 x hx (by omega) (by omega)
              rw [V1 _ (by omega)] at this
              rw [V1 _ (e2 j hj)]; exact this
            · have := Sq q.1 x hx (by omega) (by omega)
              rw [V2 _ e1 (by omega)] at this
              have h9 := e2 j hj
              rw [V2 _ h9.1 h9.2]; exact this)
        rw [V1 0 (Nat.zero_le _), V3 ops.size (by omega)] at f1 f2 f3
        exact ⟨f1, f2, fun ρ a w w0 Q A R hQ => f3 ρ a w w0 id Q (by rw [U1 0 (Nat.zero_le _), a1]; exact A) R (by rw [U4 ops.size (by omega)]; exact hQ)⟩
      · cases e1
  | scope d => exact absurd rfl (hs d)
  | _ => cases e'
end
end Go.Ev

set_option maxRecDepth 100000
set_option maxHeartbeats 8000000
set_option linter.all false
namespace Go.Ev
open Go
/-- Ok.float for a load that floats against two stores, as a walk -/
theorem Ok.float2 {P : Program} (hm : P.follows .mixedOrders = true) {nt n : Nat} {t : F} {h : H} {K : X → F → H → Prop} {l L1 L2 L3 : List CO} {rl rA rB : Run} {bA bB : Bool} {ld : List Nat} {cs : List (Nat × List Nat)} {i j : Nat} (hl : l = L1 ++ .mk .none (.some (slOf n)) .false (.mk rl) :: (L2 ++ .mk .none .none bA (.mk rA) :: (L3 ++ [.mk .none .none bB (.mk rB)])))
    (hn : i = L1.length + 1 + L2.length) (hp : j = i + 1 + L3.length) (hlo : ld = [i, j])
    (hcs : cs.all (fun q => (decide (q.1 = L1.length) && q.2.all fun k => decide (k ≤ j)) || ((decide (q.1 ≠ L1.length ∧ q.1 < i) && q.2.all fun k => decide (k ≤ i)) || (decide (i < q.1 ∧ q.1 < j) && q.2.all fun k => decide (i < k ∧ k ≤ j)))) = true)
    (k : WO P L1 t h fun t1 _ => ∃ x, OR P rl t1 h (.w 0 [] F.zero fun t' h' => get 0 t' = x ∧ h' = h) ∧ WO P L2 (put n x t1) h fun t3 _ => OR P rA t3 h (.w0 [] t3 fun _ h2 => OR P rl t1 h2 (.w 0 [] F.zero fun t' h' => get 0 t' = x ∧ h' = h2) ∧ WO P L3 t3 h2 fun t5 _ => OR P rB t5 h2 (.w0 [] t5 fun _ h3 => K .normal t5 h3))) : Ok P nt (.draws l (some (ld, cs))) t h K := by
  obtain ⟨t1, g1, k1, x, k2, t3, g3, k3, k4⟩ := k
  obtain ⟨v, h2, rr, k5, t5, g5, k6, k7⟩ := or_run k4
  obtain ⟨v', h3, rr', k8⟩ := or_run k7
  exact Ok.float hm hl hn hp hlo hcs ⟨t1, g1, k1, _, opRel_c (rv_of k2), t3, g3, k3, _, h2, opRel_0 rr, opRel_c (rv_of k5), t5, g5, k6, _, h3, opRel_0 rr', k8⟩
def FLo (P : Program) (nt : Nat) (l : List CO) (ld : List Nat) (cs : List (Nat × List Nat)) (t : F) (h : H) (K : X → F → H → Prop) : Prop := Ok P nt (.draws l (some (ld, cs))) t h K
theorem flStop {P : Program} {nt : Nat} {l : List CO} {ld : List Nat} {cs : List (Nat × List Nat)} {t : F} {h : H} {K : X → F → H → Prop} (a : FLo P nt l ld cs t h K) : Ok P nt (.draws l (some (ld, cs))) t h K := a
theorem gr_cells {α : Type} {n el : Nat} {c : α → List V} {h : H} {v : V} {L : List α} (a : Gr el n c h v L) : cells v = [v] ∧ oneV v = true := by
  rcases a with ⟨rfl, rfl⟩ | ⟨id, g, off, fin, rfl, _⟩ | ⟨id, g, cap, blk, rfl, _⟩ <;> exact ⟨rfl, rfl⟩
end Go.Ev
namespace Go.Proofs.Ytclpemggclmgeaa
open Go Go.Ev
theorem do_ok {h : H} {b : B} {v g c : V} {S : Sht} {e : Edt} (a : ShP h b v S) (wf : Wf S) (m : EdM h g c e) (hgl : e.gone.length ≤ 100) (hcl : e.come.length ≤ 100) (hsz : ∀ t ∈ e.come, t.fst.length ≤ 1000000 ∧ t.lst.length ≤ 1000000) (hf : B.val h.floor ≤ B.val h.next) (hcb : ∀ q, isOf c q → q ≠ b) :
    FnOk Try.prog 13 [.p b 0 0 4, .a [g, c, .i .i64 e.log, .i .i64 e.seq]] h fun y h' => y = .i .i64 (doS S e).1 ∧ ∃ v', ShP h' b v' (doS S e).2 ∧ (∀ q, isOf v' q → isOf v q ∨ B.val h.next ≤ B.val q) ∧ Stay (fun q => q = b) h h' := by
  have hl := wf.len
  refine fn_go c13 (by intro hb; cases hb) (by simp) (by simp) fun Q hQ => ?_
  simp only [slotsF, Nat.reduceAdd]
  repeat' (first
    | refine St.h ?_
    | simp (disch := first | omega | (simp only [lnv]; omega)) only [wlk, ↓get_put', ↓reduceIte, seval]
    | (with_reducible (first | apply cd_split | apply gd_split)) <;> (intro hc; (try simp only [hcn] at hc); (try simp only [hc]); (try simp only [hcl] at hc); try omega))
  refine AL.own (by simp) hf fun h1 s1 n1 o1 => ?_
  have hf1 := s1.fl hf
  have r1 := o1.row
  repeat' (first
    | refine St.h ?_
    | simp (disch := first | omega | (simp only [lnv]; omega)) only [wlk, ↓get_put', ↓reduceIte, seval, r1.ln]
    | (with_reducible (first | apply cd_split | apply gd_split)) <;> (intro hc; (try simp only [hcn] at hc); (try simp only [hc]); (try simp only [hcl] at hc); try omega))
  refine CL.stay (edit_ok (m.grow s1) (by omega) (by omega) hf1) fun h2 s2 => ?_
  have s12 := s1.trans s2
  have hf2 := s12.fl hf
  have up : ∀ {h'}, Stay nowhere h h' → Stay (fun q => q = b) h h' := fun s => s.mono fun _ _ e => e.elim
  cases he : isEd e with
  | false =>
    have ed : doS S e = (10, S) := by unfold doS; rw [if_pos he]
    repeat' (first
      | refine St.h ?_
      | simp (disch := first | omega | (simp only [lnv]; omega)) only [wlk, ↓get_put', ↓reduceIte, seval]
      | (with_reducible (first | apply cd_split | apply gd_split)) <;> (intro hc; (try simp only [hcn] at hc); (try simp only [hc]); (try simp only [hcl] at hc); try omega))
    subst hQ
    rw [ed]
    exact ⟨rfl, v, a.grow s12, fun q hq => .inl hq, up s12⟩
  | true =>
  have IE := isEd_iff.1 he
  have r2 := (o1.stay s2 fun e => e).row
  repeat' (first
    | refine St.h ?_
    | simp (disch := first | omega | (simp only [lnv]; omega)) only [wlk, ↓get_put', ↓reduceIte, seval, r2.l1]
    | (with_reducible (first | apply cd_split | apply gd_split)) <;> (intro hc; (try simp only [hcn] at hc); (try simp only [hc]); (try simp only [hcl] at hc); try omega))
  refine CL.stay (hasall_ok (a.grow s12) (m.grow s12).1 (by omega) (by omega) hf2) fun h3 s3 => ?_
  have s13 := s12.trans s3
  have hf3 := s13.fl hf
  cases hh : hasT S.L e.gone with
  | false =>
    have ed : doS S e = (18, S) := by unfold doS; rw [if_neg (by rw [he]; simp), if_pos hh]
    repeat' (first
      | refine St.h ?_
      | simp (disch := first | omega | (simp only [lnv]; omega)) only [wlk, ↓get_put', ↓reduceIte, seval]
      | (with_reducible (first | apply cd_split | apply gd_split)) <;> (intro hc; (try simp only [hcn] at hc); (try simp only [hc]); (try simp only [hcl] at hc); try omega))
    subst hQ
    rw [ed]
    exact ⟨rfl, v, a.grow s13, fun q hq => .inl hq, up s13⟩
  | true =>
  have r3 := (o1.stay (s2.trans s3) fun e => e).row
  repeat' (first
    | refine St.h ?_
    | simp (disch := first | omega | (simp only [lnv]; omega)) only [wlk, ↓get_put', ↓reduceIte, seval, r3.ln]
    | (with_reducible (first | apply cd_split | apply gd_split)) <;> (intro hc; (try simp only [hcn] at hc); (try simp only [hc]); (try simp only [hcl] at hc); try omega))
  refine CL.stay (past_ok (a.grow s13) (m.grow s13) hf3) fun h4 s4 => ?_
  have s14 := s13.trans s4
  have hf4 := s14.fl hf
  cases hp : pastT S e with
  | true =>
    have ed : doS S e = (16, S) := by unfold doS; rw [if_neg (by rw [he]; simp), if_neg (by rw [hh]; simp), if_pos hp]
    repeat' (first
      | refine St.h ?_
      | simp (disch := first | omega | (simp only [lnv]; omega)) only [wlk, ↓get_put', ↓reduceIte, seval]
      | (with_reducible (first | apply cd_split | apply gd_split)) <;> (intro hc; (try simp only [hcn] at hc); (try simp only [hc]); (try simp only [hcl] at hc); try omega))
    subst hQ
    rw [ed]
    exact ⟨rfl, v, a.grow s14, fun q hq => .inl hq, up s14⟩
  | false =>
  have r4 := (o1.stay ((s2.trans s3).trans s4) fun e => e).row
  repeat' (first
    | refine St.h ?_
    | simp (disch := first | omega | (simp only [lnv]; omega)) only [wlk, ↓get_put', ↓reduceIte, seval, r4.ln]
    | (with_reducible (first | apply cd_split | apply gd_split)) <;> (intro hc; (try simp only [hcn] at hc); (try simp only [hc]); (try simp only [hcl] at hc); try omega))
  refine CL.mk (behind_ok (a.grow s14) (m.grow s14) (by omega) hgl hcl hsz hf4) ?_
  rintro u h5 ⟨M, pm, so, bM, own, s5⟩
  have s15 := s14.trans s5
  have hf5 := s15.fl hf
  have hlM : M.length ≤ 200 := by rw [pm.length_eq, List.length_append]; have : (leftT S.L e.gone).length ≤ S.L.length := List.length_filter_le _ _; omega
  have e0 : doS S e = match comeT (leftT S.L e.gone) e.come with | none => (16, S) | some M => if 40 < M.length then (25, S) else (0, newS S e M) := by unfold doS; rw [if_neg (by rw [he]; simp), if_neg (by rw [hh]; simp), if_neg (by rw [hp]; simp)]; cases comeT (leftT S.L e.gone) e.come <;> rfl
  have dq := do_eq wf IE hp pm so
  repeat' (first
    | refine St.h ?_
    | simp (disch := first | omega | (simp only [lnv]; omega)) only [wlk, ↓get_put', ↓reduceIte, seval]
    | (with_reducible (first | apply cd_split | apply gd_split)) <;> (intro hc; (try simp only [hcn] at hc); (try simp only [hc]); (try simp only [hcl] at hc); try omega))
  refine CL.stay (meet_ok bM.tbs (by omega) hf5) fun h6 s6 => ?_
  have s16 := s15.trans s6
  have hf6 := s16.fl hf
  have b6 := bM.grow s6
  cases hm : meetsB M with
  | true =>
    have hc : comeT (leftT S.L e.gone) e.come = none := by
      rcases dq with ⟨_, h⟩ | ⟨h, _⟩
      · exact h
      · rw [hm] at h; cases h
    rw [hc] at e0
    repeat' (first
      | refine St.h ?_
      | simp (disch := first | omega | (simp only [lnv]; omega)) only [wlk, ↓get_put', ↓reduceIte, seval]
      | (with_reducible (first | apply cd_split | apply gd_split)) <;> (intro hc; (try simp only [hcn] at hc); (try simp only [hc]); (try simp only [hcl] at hc); try omega))
    subst hQ
    rw [e0]
    exact ⟨rfl, v, a.grow s16, fun q hq => .inl hq, up s16⟩
  | false =>
  have hc : comeT (leftT S.L e.gone) e.come = some M := by
    rcases dq with ⟨h, _⟩ | ⟨_, h⟩
    · rw [hm] at h; cases h
    · exact h
  rw [hc] at e0
  by_cases h40 : 40 < M.length
  · have d40 : ((40 : Int) < (M.length : Int)) = True := eq_true (by omega)
    have ed : doS S e = (25, S) := e0.trans (if_pos h40)
    repeat' (first
      | refine St.h ?_
      | simp (disch := first | omega | (simp only [lnv]; omega)) only [wlk, ↓get_put', ↓reduceIte, seval, b6.tbs.ln, d40]
      | (with_reducible (first | apply cd_split | apply gd_split)) <;> (intro hc; (try simp only [hcn] at hc); (try simp only [hc]); (try simp only [hcl] at hc); try omega))
    subst hQ
    rw [ed]
    exact ⟨rfl, v, a.grow s16, fun q hq => .inl hq, up s16⟩
  have d40 : ((40 : Int) < (M.length : Int)) = False := eq_false (by omega)
  have ed : doS S e = (0, newS S e M) := e0.trans (if_neg h40)
  have a6 := a.grow s16
  repeat' (first
    | refine St.h ?_
    | simp (disch := first | omega | (simp only [lnv]; omega)) only [wlk, ↓get_put', ↓reduceIte, seval, b6.tbs.ln, d40]
    | (with_reducible (first | apply cd_split | apply gd_split)) <;> (intro hc; (try simp only [hcn] at hc); (try simp only [hc]); (try simp only [hcl] at hc); try omega))
  refine ST.own a6.1 (gr_cells b6).1 (gr_cells b6).2 (by omega) (by omega) fun h7 o7 s7 => ?_
  have o7 : Ev.Own h7 b [u, .i .i64 S.log, .i .i64 S.seq, .i .i64 S.next] := o7
  have hne : h.next ≠ b := fun e => by have := a.lt.1; rw [← e] at this; omega
  have q7 := ((o1.stay ((((s2.trans s3).trans s4).trans s5).trans s6) fun e => e).stay s7 fun e => hne e).row
  have w7 := o7.row
  repeat' (first
    | with_reducible refine flStop ?_
    | refine St.h ?_
    | simp (disch := first | omega | (simp only [lnv]; omega)) only [wlk, ↓get_put', ↓reduceIte, seval, w7.l1, q7.l1]
    | (with_reducible (first | apply cd_split | apply gd_split)) <;> (intro hc; (try simp only [hcn] at hc); (try simp only [hc]); (try simp only [hcl] at hc); try omega))
  refine Ok.float2 hmix (L1 := [.mk .none (.some (slOf 35)) .false (.mk (doMove (tm 0))), .mk .none (.some (slOf 36)) .false (.mk (doMove (tm 0))), .mk .none (.some (slOf 37)) .false (.mk (doMove (tm 0))), .mk .none (.some (slOf 38)) .false (.mk (doNilCheck (tm 37))), .mk .none (.some (slOf 39)) .false (.mk (doFieldAddr 1 (tm 38))), .mk .none (.some (slOf 40)) .false (.mk (doLoad (tm 39))), .mk .none (.some (slOf 41)) .false (.mk (doFieldAddr 2 (tm 3))), .mk .none (.some (slOf 42)) .false (.mk (doLoad (tm 41))), .mk .none (.some (slOf 43)) .false (.mk (doMax (tm 40) (tm 42))), .mk .none (.some (slOf 44)) .false (.mk (doMove (tm 0))), .mk .none (.some (slOf 45)) .false (.mk (doNilCheck (tm 44))), .mk .none (.some (slOf 46)) .false (.mk (doFieldAddr 2 (tm 45))), .mk .none (.some (slOf 47)) .false (.mk (doLoad (tm 46))), .mk .none (.some (slOf 48)) .false (.mk (doFieldAddr 3 (tm 3)))]) (L2 := [.mk .none (.some (slOf 50)) .false (.mk (doMax (tm 47) (tm 49))), .mk .none (.some (slOf 51)) .false (.mk (doNilCheck (tm 35))), .mk .none (.some (slOf 52)) .false (.mk (doFieldAddr 1 (tm 51)))]) (L3 := [.mk .none (.some (slOf 53)) .true (.mk (doNilCheck (tm 36))), .mk .none (.some (slOf 54)) .false (.mk (doFieldAddr 2 (tm 53)))]) (n := 49) (rl := doLoad (tm 48)) (rA := doStore 1 (tm 52) (tm 43)) (rB := doStore 1 (tm 54) (tm 50)) rfl rfl rfl rfl (by decide) ?_
  repeat' (first
    | refine St.h ?_
    | simp (disch := first | omega | (simp only [lnv]; omega)) only [wlk, ↓get_put', ↓reduceIte, seval, w7.l1, q7.l1]
    | (with_reducible (first | apply cd_split | apply gd_split)) <;> (intro hc; (try simp only [hcn] at hc); (try simp only [hc]); (try simp only [hcl] at hc); try omega))
  refine ⟨.i .i64 e.seq, ?_⟩
  repeat' (first
    | refine St.h ?_
    | simp (disch := first | omega | (simp only [lnv]; omega)) only [wlk, ↓get_put', ↓reduceIte, seval, w7.l1, q7.l1]
    | (with_reducible (first | apply cd_split | apply gd_split)) <;> (intro hc; (try simp only [hcn] at hc); (try simp only [hc]); (try simp only [hcl] at hc); try omega))
  refine ⟨trivial, ?_⟩
  refine ST.own o7 rfl rfl (by omega) (by omega) fun h8 o8 s8 => ?_
  have o8 : Ev.Own h8 b [u, .i .i64 (max S.log e.log), .i .i64 S.seq, .i .i64 S.next] := o8
  have ob8 := (((o1.stay ((((s2.trans s3).trans s4).trans s5).trans s6) fun e => e).stay s7 fun e => hne e).stay s8 fun e => hne e)
  have q8 := ob8.row
  have w8 := o8.row
  repeat' (first
    | refine St.h ?_
    | simp (disch := first | omega | (simp only [lnv]; omega)) only [wlk, ↓get_put', ↓reduceIte, seval, w8.l1, q8.l1]
    | (with_reducible (first | apply cd_split | apply gd_split)) <;> (intro hc; (try simp only [hcn] at hc); (try simp only [hc]); (try simp only [hcl] at hc); try omega))
  refine ⟨trivial, ?_⟩
  repeat' (first
    | refine St.h ?_
    | simp (disch := first | omega | (simp only [lnv]; omega)) only [wlk, ↓get_put', ↓reduceIte, seval, w8.l1, q8.l1]
    | (with_reducible (first | apply cd_split | apply gd_split)) <;> (intro hc; (try simp only [hcn] at hc); (try simp only [hc]); (try simp only [hcl] at hc); try omega))
  refine ST.own o8 rfl rfl (by omega) (by omega) fun h9 o9 s9 => ?_
  have o9 : Ev.Own h9 b [u, .i .i64 (max S.log e.log), .i .i64 (max S.seq e.seq), .i .i64 S.next] := o9
  have q9 := (ob8.stay s9 fun e => hne e).row
  have w9 := o9.row
  have s69 : Stay (fun q => q = b) h h9 := (((up s16).trans s7).trans s8).trans s9
  have nb : ∀ q, isOf u q → q ≠ b := fun q hq e => by have h1 := own q hq; have := s14.next; have := a.lt.1; rw [e] at h1; omega
  have b9 : Rt h9 u M := ((b6.stay s7 nb).stay s8 nb).stay s9 nb
  have ow : ∀ q, isOf u q → isOf v q ∨ B.val h.next ≤ B.val q := fun q hq => .inr (Nat.le_trans s14.next (own q hq))
  have c9 : Tbs h9 c e.come := Ss.stay m.2 s69 hcb
  by_cases h0 : 0 < e.come.length
  · have d1 : ((0 : Int) ≤ (e.come.length : Int) - 1) = True := eq_true (by omega)
    have ei : ((e.come.length : Int) - 1).toNat = e.come.length - 1 := by omega
    have hi : e.come.length - 1 < e.come.length := by omega
    obtain ⟨i1, i2, _⟩ := isTb_iff.1 (IE.tb _ (getD_in hi))
    repeat' (first
      | refine St.h ?_
      | simp (disch := first | omega | (simp only [lnv]; omega)) only [wlk, ↓get_put', ↓reduceIte, seval, w9.l1, q9.l1, c9.ln, d1, ei, c9.ix, c9.l0]
      | (with_reducible (first | apply cd_split | apply gd_split)) <;> (intro hc; (try simp only [hcn] at hc); (try simp only [hc]); (try simp only [hcl] at hc); try omega))
    refine ST.own o9 rfl rfl (by omega) (by omega) fun ha oa sa => ?_
    have oa : Ev.Own ha b [u, .i .i64 (max S.log e.log), .i .i64 (max S.seq e.seq), .i .i64 ((e.come.getD (e.come.length - 1) default).id + 1)] := oa
    repeat' (first
      | refine St.h ?_
      | simp (disch := first | omega | (simp only [lnv]; omega)) only [wlk, ↓get_put', ↓reduceIte, seval]
      | (with_reducible (first | apply cd_split | apply gd_split)) <;> (intro hc; (try simp only [hcn] at hc); (try simp only [hc]); (try simp only [hcl] at hc); try omega))
    subst hQ
    rw [ed]
    refine ⟨rfl, u, ⟨?_, Gr.ss (b9.stay sa nb), nb⟩, ow, s69.trans sa⟩
    show Ev.Own ha b [u, .i .i64 (max S.log e.log), .i .i64 (max S.seq e.seq), .i .i64 (if 0 < e.come.length then (e.come.getD (e.come.length - 1) default).id + 1 else S.next)]
    rw [if_pos h0]; exact oa
  · have d1 : ((0 : Int) ≤ (e.come.length : Int) - 1) = False := eq_false (by omega)
    repeat' (first
      | refine St.h ?_
      | simp (disch := first | omega | (simp only [lnv]; omega)) only [wlk, ↓get_put', ↓reduceIte, seval, w9.l1, q9.l1, c9.ln, d1]
      | (with_reducible (first | apply cd_split | apply gd_split)) <;> (intro hc; (try simp only [hcn] at hc); (try simp only [hc]); (try simp only [hcl] at hc); try omega))
    subst hQ
    rw [ed]
    refine ⟨rfl, u, ⟨?_, b9.tbs, nb⟩, ow, s69⟩
    show Ev.Own h9 b [u, .i .i64 (max S.log e.log), .i .i64 (max S.seq e.seq), .i .i64 (if 0 < e.come.length then (e.come.getD (e.come.length - 1) default).id + 1 else S.next)]
    rw [if_neg h0]; exact o9
end Go.Proofs.Ytclpemggclmgeaa

set_option maxRecDepth 100000
set_option linter.all false
namespace Go.Ev
open Go
theorem h2_sT {P : Program} {ne : Bool} {kd : IntKind} {h : H} {N : Nx} {a b v w : List UInt8} {i j n m x y : Int} : H2 P (gSEq [.i, .i, .s, .s, .i] ne) (.a [.i kd i, .i kd n, sv a, sv v, .i kd x]) (.a [.i kd j, .i kd m, sv b, sv w, .i kd y]) h N = N.go P (.b (xor ne (decide (i = j ∧ n = m ∧ a = b ∧ v = w ∧ x = y)))) h := hv_of fun k => by
  unfold gSEq; rw [vA_a, vA_a]
  rw [eqL_i, eqL_i, eqL_s, eqL_s, eqL_i, eqL_n]
  by_cases h1 : i = j <;> by_cases h2 : n = m <;> by_cases h3 : a = b <;> by_cases h4 : v = w <;> by_cases h5 : x = y <;> simp [h1, h2, h3, h4, h5]
/-- two neighbours of tier 1 -/
theorem tier1_lt {S : Sht} (w : Wf S) {j : Nat} (h0 : 0 < j) (hj : j < (S.L.filter fun t => decide (t.tier = 1)).length) :
    Op.bytesLess ((S.L.filter fun t => decide (t.tier = 1)).getD (j - 1) default).lst ((S.L.filter fun t => decide (t.tier = 1)).getD j default).fst = true := by
  have ha := w.asc.filter fun t => decide (t.tier = 1)
  have hn := w.nm.filter fun t => decide (t.tier = 1)
  have ht : ∀ t ∈ S.L.filter (fun t => decide (t.tier = 1)), t.tier = 1 ∧ isTb t = true := fun t h => ⟨of_decide_eq_true (List.mem_filter.1 h).2, w.tb t (List.mem_filter.1 h).1⟩
  generalize S.L.filter (fun t => decide (t.tier = 1)) = T at *
  have h1 := List.pairwise_iff_getElem.1 ha (j - 1) j (by omega) hj (by omega)
  have h2 := List.pairwise_iff_getElem.1 hn (j - 1) j (by omega) hj (by omega)
  have gi : T[j - 1] = T.getD (j - 1) default := by rw [List.getD_eq_getElem?_getD, List.getElem?_eq_getElem (by omega)]; rfl
  have gj : T[j] = T.getD j default := by rw [List.getD_eq_getElem?_getD, List.getElem?_eq_getElem hj]; rfl
  rw [gi, gj] at h1 h2
  obtain ⟨a1, a2⟩ := ht _ (getD_in (L := T) (i := j - 1) (by omega))
  obtain ⟨b1, b2⟩ := ht _ (getD_in hj)
  generalize T.getD (j - 1) default = a at *
  generalize T.getD j default = b at *
  have b3 := (isTb_iff.1 b2).2.2.2.2.2.1
  unfold ltT at h1
  rw [if_pos (by omega), if_neg (by omega)] at h1
  have h3 : Op.bytesLess b.lst a.fst = false := bl_nt b3 (bl_asym h1)
  unfold meetT at h2
  rw [decide_eq_false_iff_not] at h2
  cases hb : Op.bytesLess a.lst b.fst with
  | true => rfl
  | false => exact absurd ⟨a1, b1, h3, hb⟩ h2
theorem tiers_len {L : List Tbl} (h : ∀ t ∈ L, t.tier = 0 ∨ t.tier = 1) : (L.filter fun t => decide (t.tier = 0)).length + (L.filter fun t => decide (t.tier = 1)).length = L.length := by
  induction L with
  | nil => rfl
  | cons a L ih =>
    have := ih fun t ht => h t (List.mem_cons_of_mem _ ht)
    rcases h a List.mem_cons_self with e | e
    · rw [List.filter_cons, List.filter_cons, if_pos (by simp [e]), if_neg (by simp [e])]; simp only [List.length_cons]; omega
    · rw [List.filter_cons, List.filter_cons, if_neg (by simp [e]), if_pos (by simp [e])]; simp only [List.length_cons]; omega
theorem do_mono {S : Sht} {e : Edt} (w : Wf S) : S.log ≤ (doS S e).2.log ∧ S.seq ≤ (doS S e).2.seq ∧ S.next ≤ (doS S e).2.next ∧ ((doS S e).1 ≠ 0 → (doS S e).2 = S) := by
  have same : S.log ≤ S.log ∧ S.seq ≤ S.seq ∧ S.next ≤ S.next := ⟨Int.le_refl _, Int.le_refl _, Int.le_refl _⟩
  unfold doS
  by_cases h1 : isEd e = false
  · rw [if_pos h1]; exact ⟨same.1, same.2.1, same.2.2, fun _ => rfl⟩
  rw [if_neg h1]
  by_cases h2 : hasT S.L e.gone = false
  · rw [if_pos h2]; exact ⟨same.1, same.2.1, same.2.2, fun _ => rfl⟩
  rw [if_neg h2]
  by_cases h3 : pastT S e = true
  · rw [if_pos h3]; exact ⟨same.1, same.2.1, same.2.2, fun _ => rfl⟩
  rw [if_neg h3]
  cases hc : comeT (leftT S.L e.gone) e.come with
  | none => exact ⟨same.1, same.2.1, same.2.2, fun _ => rfl⟩
  | some M =>
    by_cases h8 : 40 < M.length
    · show S.log ≤ (if 40 < M.length then _ else _ : Int × Sht).2.log ∧ S.seq ≤ (if 40 < M.length then _ else _ : Int × Sht).2.seq ∧ S.next ≤ (if 40 < M.length then _ else _ : Int × Sht).2.next ∧ ((if 40 < M.length then _ else _ : Int × Sht).1 ≠ 0 → (if 40 < M.length then _ else _ : Int × Sht).2 = S)
      rw [if_pos h8]; exact ⟨same.1, same.2.1, same.2.2, fun _ => rfl⟩
    · show S.log ≤ (if 40 < M.length then _ else _ : Int × Sht).2.log ∧ S.seq ≤ (if 40 < M.length then _ else _ : Int × Sht).2.seq ∧ S.next ≤ (if 40 < M.length then _ else _ : Int × Sht).2.next ∧ ((if 40 < M.length then _ else _ : Int × Sht).1 ≠ 0 → (if 40 < M.length then _ else _ : Int × Sht).2 = S)
      rw [if_neg h8]
      refine ⟨Int.le_max_left _ _, Int.le_max_left _ _, ?_, fun h => absurd rfl h⟩
      show S.next ≤ (if 0 < e.come.length then _ else S.next)
      by_cases h0 : 0 < e.come.length
      · rw [if_pos h0]
        have he := isEd_iff.1 (by simpa using h1)
        have hp : pastT S e = false := by simpa using h3
        have := (come_ids w he hp).2.2 _ (getD_in (L := e.come) (i := e.come.length - 1) (by omega))
        omega
      · rw [if_neg h0]; exact Int.le_refl _
end Go.Ev
namespace Go.Proofs.Ytclpemggclmgeaa
open Go Go.Ev
/-- an edit, with what it holds in memory -/
structure Ek where
  gv : V
  cv : V
  e : Edt
instance : Inhabited Ek := ⟨⟨.l0, .l0, default⟩⟩
def ekC (k : Ek) : List V := [k.gv, k.cv, .i .i64 k.e.log, .i .i64 k.e.seq]
theorem ekC_len (k : Ek) : (ekC k).length = 4 := rfl
structure Eds (h : H) (v : V) (K : List Ek) : Prop where
  ss : Ss 4 ekC h v K
  es : ∀ k ∈ K, EdM h k.gv k.cv k.e
section
variable {P : Program} {h h' g' : H} {N : Nx} {v : V} {K : List Ek} {i : Nat}
theorem Eds.ln (a : Eds h v K) : H1 P gLen v g' N = N.go P (.i .i64 (K.length : Int)) g' := Ss.ln a.ss
theorem Eds.ix (a : Eds h v K) (hi : i < K.length) : IX P 4 v i g' N = N.go P (.p (lid v) (lg v) (loff v + i * 4) (lfin v)) g' := Ss.ix a.ss hi
theorem Eds.l0 (a : Eds h v K) (hi : i < K.length) : L1 P (lid v) (lg v) (loff v + i * 4) (lfin v) h N = N.go P (K.getD i default).gv h := Ss.ld (d := 0) a.ss ekC_len hi (by omega)
theorem Eds.l1 (a : Eds h v K) (hi : i < K.length) : L1 P (lid v) (lg v) (loff v + i * 4 + 1) (lfin v) h N = N.go P (K.getD i default).cv h := Ss.ld (d := 1) a.ss ekC_len hi (by omega)
theorem Eds.la (a : Eds h v K) (hi : i < K.length) : LN P (lid v) (lg v) (loff v + i * 4) (lfin v) 4 h N = N.go P (.a [(K.getD i default).gv, (K.getD i default).cv, .i .i64 (K.getD i default).e.log, .i .i64 (K.getD i default).e.seq]) h := Ss.ldA a.ss ekC_len (by omega) hi
theorem Eds.grow (a : Eds h v K) (s : Stay nowhere h h') : Eds h' v K := ⟨Ss.grow a.ss s, fun k hk => (a.es k hk).grow s⟩
theorem Eds.at (a : Eds h v K) (hi : i < K.length) : EdM h (K.getD i default).gv (K.getD i default).cv (K.getD i default).e := a.es _ (getD_in hi)
end
def Few1 (k : Ek) : Prop := k.e.gone.length ≤ 60 ∧ k.e.come.length ≤ 60 ∧ ∀ j, j < k.e.come.length → (k.e.come.getD j default).fst.length ≤ 20 ∧ (k.e.come.getD j default).lst.length ≤ 20
def FewK (K : List Ek) : Prop := K.length ≤ 20 ∧ ∀ i, i < K.length → Few1 (K.getD i default)
end Go.Proofs.Ytclpemggclmgeaa

set_option maxRecDepth 1000000
set_option linter.all false
namespace Go.Proofs.Ytclpemggclmgeaa
open Go Go.Ev
noncomputable abbrev s9_0 : CC := (CC.cond (tm 8) CC.skip (CC.exit 0))
noncomputable abbrev s9_1 : CC := (CC.seq (CC.region [(wB 5 (doMove (tm 3))), (wB 6 (doMove (tm 0))), (wB 7 (doLen (tm 6))), (wB 8 (bin2 fLss (tm 5) (tm 7)))]) s9_0)
noncomputable abbrev s9_2 : CC := (CC.seq (CC.region [(wB 2 (doMove (O.c (V.b Bool.false))))]) CC.ret)
noncomputable abbrev s9_3 : CC := (CC.cond (tm 26) s9_2 CC.skip)
noncomputable abbrev s9_4 : CC := (CC.seq (CC.region [(wB 11 (doMove (tm 0))), (wB 12 (doMove (tm 3))), (wB 13 (doIndexAddr 4 (tm 11) (tm 12))), (wB 14 (doFieldAddr 0 (tm 13))), (wB 15 (doLoad (tm 14))), (wB 16 (doLen (tm 15))), (wB 17 (bin2 fGtr (tm 16) (oN 60))), (wB 18 (doMove (tm 17))), (wG 18 false 19 (doMove (tm 0))), (wG 18 false 20 (doMove (tm 3))), (wG 18 false 21 (doIndexAddr 4 (tm 19) (tm 20))), (wG 18 false 22 (doFieldAddr 1 (tm 21))), (wG 18 false 23 (doLoad (tm 22))), (wG 18 false 24 (doLen (tm 23))), (wG 18 false 25 (bin2 fGtr (tm 24) (oN 60))), (wB 26 (doPick (tm 18) (O.c (V.b Bool.true)) (tm 25)))]) s9_3)
noncomputable abbrev s9_5 : CC := (CC.cond (tm 34) CC.skip (CC.exit 2))
noncomputable abbrev s9_6 : CC := (CC.seq (CC.region [(wB 27 (doMove (tm 4))), (wB 28 (doMove (tm 0))), (wB 29 (doMove (tm 3))), (wB 30 (doIndexAddr 4 (tm 28) (tm 29))), (wB 31 (doFieldAddr 1 (tm 30))), (wB 32 (doLoad (tm 31))), (wB 33 (doLen (tm 32))), (wB 34 (bin2 fLss (tm 27) (tm 33)))]) s9_5)
noncomputable abbrev s9_7 : CC := (CC.seq (CC.region [(wB 2 (doMove (O.c (V.b Bool.false))))]) CC.ret)
noncomputable abbrev s9_8 : CC := (CC.cond (tm 60) s9_7 CC.skip)
noncomputable abbrev s9_9 : CC := (CC.seq (CC.region [(wB 37 (doMove (tm 0))), (wB 38 (doMove (tm 3))), (wB 39 (doIndexAddr 4 (tm 37) (tm 38))), (wB 40 (doFieldAddr 1 (tm 39))), (wB 41 (doLoad (tm 40))), (wB 42 (doMove (tm 4))), (wB 43 (doIndexAddr 5 (tm 41) (tm 42))), (wB 44 (doFieldAddr 2 (tm 43))), (wB 45 (doLoad (tm 44))), (wB 46 (doLenS (tm 45))), (wB 47 (bin2 fGtr (tm 46) (oN 20))), (wB 48 (doMove (tm 47))), (wG 48 false 49 (doMove (tm 0))), (wG 48 false 50 (doMove (tm 3))), (wG 48 false 51 (doIndexAddr 4 (tm 49) (tm 50))), (wG 48 false 52 (doFieldAddr 1 (tm 51))), (wG 48 false 53 (doLoad (tm 52))), (wG 48 false 54 (doMove (tm 4))), (wG 48 false 55 (doIndexAddr 5 (tm 53) (tm 54))), (wG 48 false 56 (doFieldAddr 3 (tm 55))), (wG 48 false 57 (doLoad (tm 56))), (wG 48 false 58 (doLenS (tm 57))), (wG 48 false 59 (bin2 fGtr (tm 58) (oN 20))), (wB 60 (doPick (tm 48) (O.c (V.b Bool.true)) (tm 59)))]) s9_8)
noncomputable abbrev s9_10 : CC := (CC.block 3 s9_9)
noncomputable abbrev s9_11 : CC := (CC.region [(wB 35 (doMove (tm 4))), (wB 36 (bin2 fAdd (tm 35) (oN 1))), (wB 4 (doMove (tm 36)))])
noncomputable abbrev s9_12 : CC := (CC.seq s9_10 s9_11)
noncomputable abbrev l9_0 : CC := (CC.seq s9_6 s9_12)
noncomputable abbrev s9_13 : CC := (CC.loop l9_0)
noncomputable abbrev s9_14 : CC := (CC.block 2 s9_13)
noncomputable abbrev s9_15 : CC := (CC.seq (CC.region [(wB 4 (doMove (oN 0)))]) s9_14)
noncomputable abbrev s9_16 : CC := (CC.seq s9_4 s9_15)
noncomputable abbrev s9_17 : CC := (CC.block 1 s9_16)
noncomputable abbrev s9_18 : CC := (CC.region [(wB 9 (doMove (tm 3))), (wB 10 (bin2 fAdd (tm 9) (oN 1))), (wB 3 (doMove (tm 10)))])
noncomputable abbrev s9_19 : CC := (CC.seq s9_17 s9_18)
noncomputable abbrev l9_1 : CC := (CC.seq s9_1 s9_19)
noncomputable abbrev s9_20 : CC := (CC.loop l9_1)
noncomputable abbrev s9_21 : CC := (CC.block 0 s9_20)
noncomputable abbrev s9_22 : CC := (CC.seq (CC.region [(wB 3 (doMove (oN 0)))]) s9_21)
noncomputable abbrev s9_23 : CC := (CC.seq (CC.region [(wB 61 (doMove (tm 0))), (wB 62 (doLen (tm 61))), (wB 63 (bin2 fLeq (tm 62) (oN 20))), (wB 2 (doMove (tm 63)))]) CC.ret)
noncomputable abbrev s9_24 : CC := (CC.seq s9_22 s9_23)
noncomputable abbrev b9 : CC := (CC.seq (CC.region [(wB 2 (doMove (O.c (V.b Bool.false))))]) s9_24)
theorem c9 : compFn Try.prog 9 = ⟨64, b9, [(Rs.tmp (slOf 2))]⟩ := by kernel_rfl
noncomputable abbrev s3_0 : CC := (CC.seq (CC.region [(wB 2 (doMove (O.c (V.b Bool.false))))]) CC.ret)
noncomputable abbrev s3_1 : CC := (CC.cond (tm 10) s3_0 CC.skip)
noncomputable abbrev s3_2 : CC := (CC.seq (CC.region [(wB 9 (doCall 8 [])), (wB 10 (doNot (tm 9)))]) s3_1)
noncomputable abbrev s3_3 : CC := (CC.seq (CC.region [(wB 2 (doMove (O.c (V.b Bool.true))))]) CC.ret)
noncomputable abbrev s3_4 : CC := (CC.cond (tm 13) s3_3 CC.skip)
noncomputable abbrev s3_5 : CC := (CC.seq (CC.region [(wB 11 (doMove (tm 0))), (wB 12 (doCall 9 [(tm 11)])), (wB 13 (doNot (tm 12)))]) s3_4)
noncomputable abbrev s3_6 : CC := (CC.cond (tm 19) CC.skip (CC.exit 0))
noncomputable abbrev s3_7 : CC := (CC.seq (CC.region [(wB 16 (doMove (tm 5))), (wB 17 (doMove (tm 0))), (wB 18 (doLen (tm 17))), (wB 19 (bin2 fLss (tm 16) (tm 18)))]) s3_6)
noncomputable abbrev s3_8 : CC := (CC.seq (CC.region [(wB 2 (doMove (O.c (V.b Bool.false))))]) CC.ret)
noncomputable abbrev s3_9 : CC := (CC.cond (tm 50) s3_8 CC.skip)
noncomputable abbrev s3_10 : CC := (CC.seq (CC.region [(wB 42 (doMove (tm 7))), (wB 43 (doMove (tm 8))), (wB 44 (bin2 fNeq (tm 42) (tm 43))), (wB 45 (doMove (tm 44))), (wG 45 false 46 (doMove (tm 3))), (wG 45 false 47 (doMove (tm 4))), (wG 45 false 48 (doCall 15 [(tm 46), (tm 47)])), (wG 45 false 49 (doNot (tm 48))), (wB 50 (doPick (tm 45) (O.c (V.b Bool.true)) (tm 49)))]) s3_9)
noncomputable abbrev s3_11 : CC := (CC.seq (CC.draws [(uB 30 (doMove (tm 3))), (uB 31 (doMove (tm 0))), (uB 32 (doMove (tm 5))), (uB 33 (doIndexAddr 4 (tm 31) (tm 32))), (uB 34 (doLoadA 4 (tm 33))), (uB 35 (doCall 13 [(tm 30), (tm 34)])), (uB 36 (doMove (tm 4))), (uB 37 (doMove (tm 0))), (uB 38 (doMove (tm 5))), (uB 39 (doIndexAddr 4 (tm 37) (tm 38))), (uB 40 (doLoadA 4 (tm 39))), (wB 41 (doCall 14 [(tm 36), (tm 40)])), (uB 7 (doMove (tm 35))), (uB 8 (doMove (tm 41)))] (some ([5, 11], [(4, [0]), (10, [0, 6])]))) s3_10)
noncomputable abbrev s3_12 : CC := (CC.seq (CC.region [(wB 25 (doMove (tm 6))), (wB 26 (doBuild [(V.i IntKind.i64 (Int.ofNat 0)), (V.i IntKind.i64 (Int.ofNat 0)), (V.s 0 0), (V.s 0 0), (V.i IntKind.i64 (Int.ofNat 0))] [(Pt.mk 0 1 (oN 999999)), (Pt.mk 2 1 (O.c (V.s 1 113))), (Pt.mk 3 1 (O.c (V.s 1 113))), (Pt.mk 4 1 (oN 1))])), (wB 27 (doBuildSlice 32 1 [(V.i IntKind.i64 (Int.ofNat 0)), (V.i IntKind.i64 (Int.ofNat 0)), (V.s 0 0), (V.s 0 0), (V.i IntKind.i64 (Int.ofNat 0))] [(Pt.mk 0 5 (tm 26))])), (wB 28 (doBuild [V.l0, V.l0, (V.i IntKind.i64 (Int.ofNat 0)), (V.i IntKind.i64 (Int.ofNat 0))] [(Pt.mk 1 1 (tm 27))])), (wB 29 (doCall 13 [(tm 25), (tm 28)]))]) s3_11)
noncomputable abbrev s3_13 : CC := (CC.seq (CC.region [(wB 23 (doMove (tm 3))), (wB 24 (doCall 12 [(tm 23)])), (wB 3 (doMove (tm 24)))]) s3_12)
noncomputable abbrev s3_14 : CC := (CC.seq (CC.region [(wB 22 (doMove (tm 3))), (wB 6 (doMove (tm 22)))]) s3_13)
noncomputable abbrev s3_15 : CC := (CC.block 1 s3_14)
noncomputable abbrev s3_16 : CC := (CC.region [(wB 20 (doMove (tm 5))), (wB 21 (bin2 fAdd (tm 20) (oN 1))), (wB 5 (doMove (tm 21)))])
noncomputable abbrev s3_17 : CC := (CC.seq s3_15 s3_16)
noncomputable abbrev l3_0 : CC := (CC.seq s3_7 s3_17)
noncomputable abbrev s3_18 : CC := (CC.loop l3_0)
noncomputable abbrev s3_19 : CC := (CC.block 0 s3_18)
noncomputable abbrev s3_20 : CC := (CC.seq (CC.region [(wB 5 (doMove (oN 0)))]) s3_19)
noncomputable abbrev s3_21 : CC := (CC.seq (CC.region [(wB 51 (doMove (tm 3))), (wB 52 (doMove (tm 4))), (wB 53 (doCall 15 [(tm 51), (tm 52)])), (wB 2 (doMove (tm 53)))]) CC.ret)
noncomputable abbrev s3_22 : CC := (CC.seq s3_20 s3_21)
noncomputable abbrev s3_23 : CC := (CC.seq (CC.region [(wB 14 (doCall 10 [])), (wB 15 (doCall 11 [])), (wB 3 (doMove (tm 14))), (wB 4 (doMove (tm 15)))]) s3_22)
noncomputable abbrev s3_24 : CC := (CC.seq s3_5 s3_23)
noncomputable abbrev s3_25 : CC := (CC.seq s3_2 s3_24)
noncomputable abbrev b3 : CC := (CC.seq (CC.region [(wB 2 (doMove (O.c (V.b Bool.false))))]) s3_25)
theorem c3 : compFn Try.prog 3 = ⟨54, b3, [(Rs.tmp (slOf 2))]⟩ := by kernel_rfl
noncomputable abbrev s5_0 : CC := (CC.seq (CC.region [(wB 2 (doMove (O.c (V.b Bool.false))))]) CC.ret)
noncomputable abbrev s5_1 : CC := (CC.cond (tm 13) s5_0 CC.skip)
noncomputable abbrev s5_2 : CC := (CC.seq (CC.region [(wB 12 (doCall 8 [])), (wB 13 (doNot (tm 12)))]) s5_1)
noncomputable abbrev s5_3 : CC := (CC.seq (CC.region [(wB 2 (doMove (O.c (V.b Bool.true))))]) CC.ret)
noncomputable abbrev s5_4 : CC := (CC.cond (tm 16) s5_3 CC.skip)
noncomputable abbrev s5_5 : CC := (CC.seq (CC.region [(wB 14 (doMove (tm 0))), (wB 15 (doCall 9 [(tm 14)])), (wB 16 (doNot (tm 15)))]) s5_4)
noncomputable abbrev s5_6 : CC := (CC.cond (tm 21) CC.skip (CC.exit 0))
noncomputable abbrev s5_7 : CC := (CC.seq (CC.region [(wB 18 (doMove (tm 4))), (wB 19 (doMove (tm 0))), (wB 20 (doLen (tm 19))), (wB 21 (bin2 fLss (tm 18) (tm 20)))]) s5_6)
noncomputable abbrev s5_8 : CC := (CC.seq (CC.region [(wB 2 (doMove (O.c (V.b Bool.false))))]) CC.ret)
noncomputable abbrev s5_9 : CC := (CC.cond (tm 82) s5_8 CC.skip)
noncomputable abbrev s5_10 : CC := (CC.seq (CC.region [(wB 38 (doMove (tm 3))), (wB 39 (doCall 19 [(tm 38)])), (wB 40 (doMove (tm 5))), (wB 41 (bin2 fLss (tm 39) (tm 40))), (wB 42 (doMove (tm 41))), (wG 42 false 43 (doMove (tm 3))), (wG 42 false 44 (doCall 20 [(tm 43)])), (wG 42 false 45 (doMove (tm 6))), (wG 42 false 46 (bin2 fLss (tm 44) (tm 45))), (wB 47 (doPick (tm 42) (O.c (V.b Bool.true)) (tm 46))), (wB 48 (doMove (tm 47))), (wG 48 false 49 (doMove (tm 3))), (wG 48 false 50 (doCall 21 [(tm 49)])), (wG 48 false 51 (doMove (tm 7))), (wG 48 false 52 (bin2 fLss (tm 50) (tm 51))), (wB 53 (doPick (tm 48) (O.c (V.b Bool.true)) (tm 52))), (wB 54 (doMove (tm 53))), (wG 54 false 55 (doMove (tm 9))), (wG 54 false 56 (bin2 fNeq (tm 55) (oN 0))), (wG 54 false 57 (doMove (tm 56))), (wG 57 true 58 (doMove (tm 3))), (wG 57 true 59 (doCall 19 [(tm 58)])), (wG 57 true 60 (doMove (tm 5))), (wG 57 true 61 (bin2 fNeq (tm 59) (tm 60))), (wG 57 true 62 (doMove (tm 61))), (wG 62 false 63 (doMove (tm 3))), (wG 62 false 64 (doCall 20 [(tm 63)])), (wG 62 false 65 (doMove (tm 6))), (wG 62 false 66 (bin2 fNeq (tm 64) (tm 65))), (wG 57 true 67 (doPick (tm 62) (O.c (V.b Bool.true)) (tm 66))), (wG 57 true 68 (doMove (tm 67))), (wG 68 false 69 (doMove (tm 3))), (wG 68 false 70 (doCall 21 [(tm 69)])), (wG 68 false 71 (doMove (tm 7))), (wG 68 false 72 (bin2 fNeq (tm 70) (tm 71))), (wG 57 true 73 (doPick (tm 68) (O.c (V.b Bool.true)) (tm 72))), (wG 57 true 74 (doMove (tm 73))), (wG 74 false 75 (doMove (tm 3))), (wG 74 false 76 (doCall 22 [(tm 75)])), (wG 74 false 77 (doMove (tm 8))), (wG 74 false 78 (doCall 23 [(tm 76), (tm 77)])), (wG 74 false 79 (doNot (tm 78))), (wG 57 true 80 (doPick (tm 74) (O.c (V.b Bool.true)) (tm 79))), (wG 54 false 81 (doPick (tm 57) (tm 80) (O.c (V.b Bool.false)))), (wB 82 (doPick (tm 54) (O.c (V.b Bool.true)) (tm 81)))]) s5_9)
noncomputable abbrev s5_11 : CC := (CC.cond (tm 88) CC.skip (CC.exit 2))
noncomputable abbrev s5_12 : CC := (CC.seq (CC.region [(wB 85 (doMove (tm 11))), (wB 86 (doMove (tm 10))), (wB 87 (doLen (tm 86))), (wB 88 (bin2 fLss (tm 85) (tm 87)))]) s5_11)
noncomputable abbrev s5_13 : CC := (CC.seq (CC.region [(wB 2 (doMove (O.c (V.b Bool.false))))]) CC.ret)
noncomputable abbrev s5_14 : CC := (CC.cond (tm 102) s5_13 CC.skip)
noncomputable abbrev s5_15 : CC := (CC.seq (CC.draws [(uB 91 (doMove (tm 10))), (uB 92 (doMove (tm 11))), (uB 93 (bin2 fSub (tm 92) (oN 1))), (uB 94 (doIndexAddr 5 (tm 91) (tm 93))), (uB 95 (doFieldAddr 3 (tm 94))), (uB 96 (doLoad (tm 95))), (uB 97 (doMove (tm 10))), (uB 98 (doMove (tm 11))), (uB 99 (doIndexAddr 5 (tm 97) (tm 98))), (uB 100 (doFieldAddr 2 (tm 99))), (uB 101 (doLoad (tm 100))), (uB 102 (doSCmp (fun a b c d => !ltS a b c d) (tm 96) (tm 101)))] none) s5_14)
noncomputable abbrev s5_16 : CC := (CC.block 3 s5_15)
noncomputable abbrev s5_17 : CC := (CC.region [(wB 89 (doMove (tm 11))), (wB 90 (bin2 fAdd (tm 89) (oN 1))), (wB 11 (doMove (tm 90)))])
noncomputable abbrev s5_18 : CC := (CC.seq s5_16 s5_17)
noncomputable abbrev l5_0 : CC := (CC.seq s5_12 s5_18)
noncomputable abbrev s5_19 : CC := (CC.loop l5_0)
noncomputable abbrev s5_20 : CC := (CC.block 2 s5_19)
noncomputable abbrev s5_21 : CC := (CC.seq (CC.region [(wB 11 (doMove (oN 1)))]) s5_20)
noncomputable abbrev s5_22 : CC := (CC.seq (CC.region [(wB 2 (doMove (O.c (V.b Bool.false))))]) CC.ret)
noncomputable abbrev s5_23 : CC := (CC.cond (tm 118) s5_22 CC.skip)
noncomputable abbrev s5_24 : CC := (CC.seq (CC.region [(wB 103 (doMove (tm 3))), (wB 104 (doCall 22 [(tm 103)])), (wB 105 (doLen (tm 104))), (wB 106 (bin2 fGtr (tm 105) (oN 40))), (wB 107 (doMove (tm 106))), (wG 107 false 108 (doMove (tm 3))), (wG 107 false 109 (doCall 22 [(tm 108)])), (wG 107 false 110 (doLen (tm 109))), (wG 107 false 111 (doMove (tm 3))), (wG 107 false 112 (doCall 24 [(tm 111), (oN 0)])), (wG 107 false 113 (doLen (tm 112))), (wG 107 false 114 (doMove (tm 10))), (wG 107 false 115 (doLen (tm 114))), (wG 107 false 116 (bin2 fAdd (tm 113) (tm 115))), (wG 107 false 117 (bin2 fNeq (tm 110) (tm 116))), (wB 118 (doPick (tm 107) (O.c (V.b Bool.true)) (tm 117)))]) s5_23)
noncomputable abbrev s5_25 : CC := (CC.seq s5_21 s5_24)
noncomputable abbrev s5_26 : CC := (CC.seq (CC.region [(wB 83 (doMove (tm 3))), (wB 84 (doCall 24 [(tm 83), (oN 1)])), (wB 10 (doMove (tm 84)))]) s5_25)
noncomputable abbrev s5_27 : CC := (CC.seq s5_10 s5_26)
noncomputable abbrev s5_28 : CC := (CC.seq (CC.region [(wB 32 (doMove (tm 3))), (wB 33 (doMove (tm 0))), (wB 34 (doMove (tm 4))), (wB 35 (doIndexAddr 4 (tm 33) (tm 34))), (wB 36 (doLoadA 4 (tm 35))), (wB 37 (doCall 13 [(tm 32), (tm 36)])), (wB 9 (doMove (tm 37)))]) s5_27)
noncomputable abbrev s5_29 : CC := (CC.seq (CC.region [(wB 24 (doMove (tm 3))), (wB 25 (doCall 19 [(tm 24)])), (wB 26 (doMove (tm 3))), (wB 27 (doCall 20 [(tm 26)])), (wB 28 (doMove (tm 3))), (wB 29 (doCall 21 [(tm 28)])), (wB 30 (doMove (tm 3))), (wB 31 (doCall 22 [(tm 30)])), (wB 5 (doMove (tm 25))), (wB 6 (doMove (tm 27))), (wB 7 (doMove (tm 29))), (wB 8 (doMove (tm 31)))]) s5_28)
noncomputable abbrev s5_30 : CC := (CC.block 1 s5_29)
noncomputable abbrev s5_31 : CC := (CC.region [(wB 22 (doMove (tm 4))), (wB 23 (bin2 fAdd (tm 22) (oN 1))), (wB 4 (doMove (tm 23)))])
noncomputable abbrev s5_32 : CC := (CC.seq s5_30 s5_31)
noncomputable abbrev l5_1 : CC := (CC.seq s5_7 s5_32)
noncomputable abbrev s5_33 : CC := (CC.loop l5_1)
noncomputable abbrev s5_34 : CC := (CC.block 0 s5_33)
noncomputable abbrev s5_35 : CC := (CC.seq (CC.region [(wB 4 (doMove (oN 0)))]) s5_34)
noncomputable abbrev s5_36 : CC := (CC.seq (CC.region [(wB 2 (doMove (O.c (V.b Bool.true))))]) CC.ret)
noncomputable abbrev s5_37 : CC := (CC.seq s5_35 s5_36)
noncomputable abbrev s5_38 : CC := (CC.seq (CC.region [(wB 17 (doCall 10 [])), (wB 3 (doMove (tm 17)))]) s5_37)
noncomputable abbrev s5_39 : CC := (CC.seq s5_5 s5_38)
noncomputable abbrev s5_40 : CC := (CC.seq s5_2 s5_39)
noncomputable abbrev b5 : CC := (CC.seq (CC.region [(wB 2 (doMove (O.c (V.b Bool.false))))]) s5_40)
theorem c5 : compFn Try.prog 5 = ⟨119, b5, [(Rs.tmp (slOf 2))]⟩ := by kernel_rfl
end Go.Proofs.Ytclpemggclmgeaa

set_option maxRecDepth 1000000
set_option linter.all false
namespace Go.Proofs.Ytclpemggclmgeaa
open Go Go.Ev
noncomputable abbrev s23_0 : CC := (CC.seq (CC.region [(wB 4 (doMove (O.c (V.b Bool.false))))]) CC.ret)
noncomputable abbrev s23_1 : CC := (CC.cond (tm 10) s23_0 CC.skip)
noncomputable abbrev s23_2 : CC := (CC.seq (CC.region [(wB 6 (doMove (tm 0))), (wB 7 (doLen (tm 6))), (wB 8 (doMove (tm 1))), (wB 9 (doLen (tm 8))), (wB 10 (bin2 fNeq (tm 7) (tm 9)))]) s23_1)
noncomputable abbrev s23_3 : CC := (CC.cond (tm 14) CC.skip (CC.exit 0))
noncomputable abbrev s23_4 : CC := (CC.seq (CC.region [(wB 11 (doMove (tm 5))), (wB 12 (doMove (tm 0))), (wB 13 (doLen (tm 12))), (wB 14 (bin2 fLss (tm 11) (tm 13)))]) s23_3)
noncomputable abbrev s23_5 : CC := (CC.seq (CC.region [(wB 4 (doMove (O.c (V.b Bool.false))))]) CC.ret)
noncomputable abbrev s23_6 : CC := (CC.cond (tm 25) s23_5 CC.skip)
noncomputable abbrev s23_7 : CC := (CC.seq (CC.draws [(uB 17 (doMove (tm 0))), (uB 18 (doMove (tm 5))), (uB 19 (doIndexAddr 5 (tm 17) (tm 18))), (uB 20 (doLoadA 5 (tm 19))), (uB 21 (doMove (tm 1))), (uB 22 (doMove (tm 5))), (uB 23 (doIndexAddr 5 (tm 21) (tm 22))), (uB 24 (doLoadA 5 (tm 23))), (uB 25 (doSEq [KD.i, KD.i, KD.s, KD.s, KD.i] Bool.true (tm 20) (tm 24)))] none) s23_6)
noncomputable abbrev s23_8 : CC := (CC.block 1 s23_7)
noncomputable abbrev s23_9 : CC := (CC.region [(wB 15 (doMove (tm 5))), (wB 16 (bin2 fAdd (tm 15) (oN 1))), (wB 5 (doMove (tm 16)))])
noncomputable abbrev s23_10 : CC := (CC.seq s23_8 s23_9)
noncomputable abbrev l23_0 : CC := (CC.seq s23_4 s23_10)
noncomputable abbrev s23_11 : CC := (CC.loop l23_0)
noncomputable abbrev s23_12 : CC := (CC.block 0 s23_11)
noncomputable abbrev s23_13 : CC := (CC.seq (CC.region [(wB 5 (doMove (oN 0)))]) s23_12)
noncomputable abbrev s23_14 : CC := (CC.seq (CC.region [(wB 4 (doMove (O.c (V.b Bool.true))))]) CC.ret)
noncomputable abbrev s23_15 : CC := (CC.seq s23_13 s23_14)
noncomputable abbrev s23_16 : CC := (CC.seq s23_2 s23_15)
noncomputable abbrev b23 : CC := (CC.seq (CC.region [(wB 4 (doMove (O.c (V.b Bool.false))))]) s23_16)
theorem c23 : compFn Try.prog 23 = ⟨26, b23, [(Rs.tmp (slOf 4))]⟩ := by kernel_rfl
end Go.Proofs.Ytclpemggclmgeaa

set_option maxRecDepth 1000000
namespace Go.Proofs.Ytclpemggclmgeaa.ravelinlaw13
open Go.Ev
theorem known_run : runFn noTb Try.prog 1000 8 [] = true := by kernel_rfl
theorem known_pure : PureTrue Try.prog 8 := pure_of (noTb_ok _) (Checked.mixed Try.checked) known_run
end Go.Proofs.Ytclpemggclmgeaa.ravelinlaw13

set_option maxRecDepth 100000
set_option maxHeartbeats 8000000
set_option linter.all false
namespace Go.Proofs.Ytclpemggclmgeaa
open Go Go.Ev
theorem known13 {h : H} : FnOk Try.prog 8 [] h fun y h' => y = .b true ∧ h' = h := FnOk.of_pure ravelinlaw13.known_pure h
theorem same_ok {h : H} {x y : V} {M : List Tbl} (a : Tbs h x M) (b : Tbs h y M) (hl : M.length ≤ 1000) : FnOk Try.prog 23 [x, y] h fun y h' => y = .b true ∧ h' = h := by
  refine fn_go c23 (by intro hb; cases hb) (by simp) (by simp) fun Q hQ => ?_
  simp only [slotsF, Nat.reduceAdd]
  repeat' (first
    | refine St.h ?_
    | simp (disch := first | omega | (simp only [lnv]; omega)) only [wlk, ↓get_put', ↓reduceIte, seval, a.ln, b.ln]
    | (with_reducible (first | apply cd_split | apply gd_split)) <;> (intro hc; (try simp only [hcn] at hc); (try simp only [hc]); (try simp only [hcl] at hc); try omega))
  refine Ok.lp (fun m t g => ∃ i : Nat, m = M.length - i ∧ i ≤ M.length ∧ h = g ∧ get 0 t = x ∧ get 1 t = y ∧ get 5 t = .i .i64 (i : Int)) M.length ?_ ?_
  · simp (disch := first | omega | (simp only [lnv]; omega)) only [wlk, ↓get_put', ↓reduceIte, seval]
    refine ⟨0, by omega, by omega, ?_⟩
    refine ⟨?_, ?_, ?_, ?_⟩
    all_goals first | trivial | rfl
  rintro I hI m t g ⟨i, rfl, hi, rfl, f0, f1, f5⟩
  by_cases hil : i < M.length
  case neg =>
    obtain rfl : i = M.length := by omega
    have d1 : ((M.length : Int) < (M.length : Int)) = False := eq_false (by omega)
    repeat' (first
      | refine St.h ?_
      | simp (disch := first | omega | (simp only [lnv]; omega)) only [wlk, ↓get_put', ↓reduceIte, seval, f0, f1, f5, d1, a.ln]
      | (with_reducible (first | apply cd_split | apply gd_split)) <;> (intro hc; (try simp only [hcn] at hc); (try simp only [hc]); (try simp only [hcl] at hc); try omega))
    subst hQ
    exact ⟨rfl, rfl⟩
  have d1 : ((i : Int) < (M.length : Int)) = True := eq_true (by omega)
  repeat' (first
    | refine St.h ?_
    | simp (disch := first | omega | (simp only [lnv]; omega)) only [wlk, ↓get_put', ↓reduceIte, seval, f0, f1, f5, d1, a.ln, b.ln, a.ix, a.la, b.ix, b.la, Int.toNat_natCast, h2_sT, and_self, decide_true, Bool.xor_true, Bool.not_true]
    | (with_reducible (first | apply cd_split | apply gd_split)) <;> (intro hc; (try simp only [hcn] at hc); (try simp only [hc]); (try simp only [hcl] at hc); try omega))
  exact lp_next hI (M.length - (i + 1)) (by omega) ⟨i + 1, rfl, by omega, rfl, by simp (disch := first | omega | (simp only [lnv]; omega)) only [wlk, ↓get_put', ↓reduceIte, seval, f0], by simp (disch := first | omega | (simp only [lnv]; omega)) only [wlk, ↓get_put', ↓reduceIte, seval, f1], by simp (disch := first | omega | (simp only [lnv]; omega)) only [wlk, ↓get_put', ↓reduceIte, seval, f5]; rfl⟩
theorem few_ok {h : H} {v : V} {K : List Ek} (a : Eds h v K) (hl : K.length ≤ 9223372036854775807) : FnOk Try.prog 9 [v] h fun y h' => ∃ r, y = .b r ∧ (r = true → FewK K) ∧ h = h' := by
  refine fn_go c9 (by intro hb; cases hb) (by simp) (by simp) fun Q hQ => ?_
  simp only [slotsF, Nat.reduceAdd]
  repeat' (first
    | refine St.h ?_
    | simp (disch := first | omega | (simp only [lnv]; omega)) only [wlk, ↓get_put', ↓reduceIte, seval, a.ln]
    | (with_reducible (first | apply cd_split | apply gd_split)) <;> (intro hc; (try simp only [hcn] at hc); (try simp only [hc]); (try simp only [hcl] at hc); try omega))
  refine Ok.lp (fun m t g => ∃ i : Nat, m = K.length - i ∧ i ≤ K.length ∧ h = g ∧ get 0 t = v ∧ get 3 t = .i .i64 (i : Int) ∧ ∀ p, p < i → Few1 (K.getD p default)) K.length ?_ ?_
  · simp (disch := first | omega | (simp only [lnv]; omega)) only [wlk, ↓get_put', ↓reduceIte, seval]
    refine ⟨0, by omega, by omega, ?_⟩
    refine ⟨?_, ?_, ?_, fun p hp => by omega⟩
    all_goals first | trivial | rfl
  rintro I hI m t g ⟨i, rfl, hi, rfl, f0, f3, hall⟩
  by_cases hil : i < K.length
  case neg =>
    obtain rfl : i = K.length := by omega
    have d1 : ((K.length : Int) < (K.length : Int)) = False := eq_false (by omega)
    repeat' (first
      | refine St.h ?_
      | simp (disch := first | omega | (simp only [lnv]; omega)) only [wlk, ↓get_put', ↓reduceIte, seval, f0, f3, d1, a.ln]
      | (with_reducible (first | apply cd_split | apply gd_split)) <;> (intro hc; (try simp only [hcn] at hc); (try simp only [hc]); (try simp only [hcl] at hc); try omega))
    subst hQ
    exact ⟨_, rfl, fun hr => ⟨by have := of_decide_eq_true hr; omega, hall⟩, rfl⟩
  have d1 : ((i : Int) < (K.length : Int)) = True := eq_true (by omega)
  have m1 := a.at hil
  by_cases hg : 60 < (K.getD i default).e.gone.length
  · have d2 : ((60 : Int) < ((K.getD i default).e.gone.length : Int)) = True := eq_true (by omega)
    repeat' (first
      | refine St.h ?_
      | simp (disch := first | omega | (simp only [lnv]; omega)) only [wlk, ↓get_put', ↓reduceIte, seval, f0, f3, d1, d2, a.ln, a.ix, a.l0, m1.1.ln, Int.toNat_natCast]
      | (with_reducible (first | apply cd_split | apply gd_split)) <;> (intro hc; (try simp only [hcn] at hc); (try simp only [hc]); (try simp only [hcl] at hc); try omega))
    subst hQ
    exact ⟨_, rfl, fun hr => (by cases hr), rfl⟩
  have d2 : ((60 : Int) < ((K.getD i default).e.gone.length : Int)) = False := eq_false (by omega)
  by_cases hc : 60 < (K.getD i default).e.come.length
  · have d3 : ((60 : Int) < ((K.getD i default).e.come.length : Int)) = True := eq_true (by omega)
    repeat' (first
      | refine St.h ?_
      | simp (disch := first | omega | (simp only [lnv]; omega)) only [wlk, ↓get_put', ↓reduceIte, seval, f0, f3, d1, d2, d3, a.ln, a.ix, a.l0, a.l1, m1.1.ln, m1.2.ln, Int.toNat_natCast]
      | (with_reducible (first | apply cd_split | apply gd_split)) <;> (intro hc; (try simp only [hcn] at hc); (try simp only [hc]); (try simp only [hcl] at hc); try omega))
    subst hQ
    exact ⟨_, rfl, fun hr => (by cases hr), rfl⟩
  have d3 : ((60 : Int) < ((K.getD i default).e.come.length : Int)) = False := eq_false (by omega)
  repeat' (first
    | refine St.h ?_
    | simp (disch := first | omega | (simp only [lnv]; omega)) only [wlk, ↓get_put', ↓reduceIte, seval, f0, f3, d1, d2, d3, a.ln, a.ix, a.l0, a.l1, m1.1.ln, m1.2.ln, Int.toNat_natCast]
    | (with_reducible (first | apply cd_split | apply gd_split)) <;> (intro hc; (try simp only [hcn] at hc); (try simp only [hc]); (try simp only [hcl] at hc); try omega))
  refine Ok.lp (fun m t g => ∃ j : Nat, m = (K.getD i default).e.come.length - j ∧ j ≤ (K.getD i default).e.come.length ∧ h = g ∧ get 0 t = v ∧ get 3 t = .i .i64 (i : Int) ∧ get 4 t = .i .i64 (j : Int) ∧ ∀ p, p < j → ((K.getD i default).e.come.getD p default).fst.length ≤ 20 ∧ ((K.getD i default).e.come.getD p default).lst.length ≤ 20) (K.getD i default).e.come.length ?_ ?_
  · simp (disch := first | omega | (simp only [lnv]; omega)) only [wlk, ↓get_put', ↓reduceIte, seval, f0, f3]
    refine ⟨0, by omega, by omega, ?_⟩
    refine ⟨?_, ?_, ?_, ?_, fun p hp => by omega⟩
    all_goals first | trivial | rfl
  rintro I2 hI2 m2 t2 g2 ⟨j, rfl, hj, rfl, f0, f3, f4, hin⟩
  by_cases hjl : j < (K.getD i default).e.come.length
  case neg =>
    obtain rfl : j = (K.getD i default).e.come.length := by omega
    have d4 : (((K.getD i default).e.come.length : Int) < ((K.getD i default).e.come.length : Int)) = False := eq_false (by omega)
    repeat' (first
      | refine St.h ?_
      | simp (disch := first | omega | (simp only [lnv]; omega)) only [wlk, ↓get_put', ↓reduceIte, seval, f0, f3, f4, d4, a.ln, a.ix, a.l0, a.l1, m1.1.ln, m1.2.ln, Int.toNat_natCast]
      | (with_reducible (first | apply cd_split | apply gd_split)) <;> (intro hc; (try simp only [hcn] at hc); (try simp only [hc]); (try simp only [hcl] at hc); try omega))
    refine lp_next hI (K.length - (i + 1)) (by omega) ⟨i + 1, rfl, by omega, rfl, by simp (disch := first | omega | (simp only [lnv]; omega)) only [wlk, ↓get_put', ↓reduceIte, seval, f0], by simp (disch := first | omega | (simp only [lnv]; omega)) only [wlk, ↓get_put', ↓reduceIte, seval, f3]; rfl, fun p hp => ?_⟩
    by_cases e : p = i
    · rw [e]; exact ⟨by omega, by omega, hin⟩
    · exact hall p (by omega)
  have d4 : ((j : Int) < ((K.getD i default).e.come.length : Int)) = True := eq_true (by omega)
  by_cases hx : 20 < ((K.getD i default).e.come.getD j default).fst.length
  · have d5 : ((20 : Int) < (((K.getD i default).e.come.getD j default).fst.length : Int)) = True := eq_true (by omega)
    repeat' (first
      | refine St.h ?_
      | simp (disch := first | omega | (simp only [lnv]; omega)) only [wlk, ↓get_put', ↓reduceIte, seval, f0, f3, f4, d4, d5, a.ln, a.ix, a.l0, a.l1, m1.1.ln, m1.2.ln, m1.2.ix, m1.2.l2, Int.toNat_natCast]
      | (with_reducible (first | apply cd_split | apply gd_split)) <;> (intro hc; (try simp only [hcn] at hc); (try simp only [hc]); (try simp only [hcl] at hc); try omega))
    subst hQ
    exact ⟨_, rfl, fun hr => (by cases hr), rfl⟩
  have d5 : ((20 : Int) < (((K.getD i default).e.come.getD j default).fst.length : Int)) = False := eq_false (by omega)
  by_cases hy : 20 < ((K.getD i default).e.come.getD j default).lst.length
  · have d6 : ((20 : Int) < (((K.getD i default).e.come.getD j default).lst.length : Int)) = True := eq_true (by omega)
    repeat' (first
      | refine St.h ?_
      | simp (disch := first | omega | (simp only [lnv]; omega)) only [wlk, ↓get_put', ↓reduceIte, seval, f0, f3, f4, d4, d5, d6, a.ln, a.ix, a.l0, a.l1, m1.1.ln, m1.2.ln, m1.2.ix, m1.2.l2, m1.2.l3, Int.toNat_natCast]
      | (with_reducible (first | apply cd_split | apply gd_split)) <;> (intro hc; (try simp only [hcn] at hc); (try simp only [hc]); (try simp only [hcl] at hc); try omega))
    subst hQ
    exact ⟨_, rfl, fun hr => (by cases hr), rfl⟩
  have d6 : ((20 : Int) < (((K.getD i default).e.come.getD j default).lst.length : Int)) = False := eq_false (by omega)
  repeat' (first
    | refine St.h ?_
    | simp (disch := first | omega | (simp only [lnv]; omega)) only [wlk, ↓get_put', ↓reduceIte, seval, f0, f3, f4, d4, d5, d6, a.ln, a.ix, a.l0, a.l1, m1.1.ln, m1.2.ln, m1.2.ix, m1.2.l2, m1.2.l3, Int.toNat_natCast]
    | (with_reducible (first | apply cd_split | apply gd_split)) <;> (intro hc; (try simp only [hcn] at hc); (try simp only [hc]); (try simp only [hcl] at hc); try omega))
  refine lp_next hI2 ((K.getD i default).e.come.length - (j + 1)) (by omega) ⟨j + 1, rfl, by omega, rfl, by simp (disch := first | omega | (simp only [lnv]; omega)) only [wlk, ↓get_put', ↓reduceIte, seval, f0], by simp (disch := first | omega | (simp only [lnv]; omega)) only [wlk, ↓get_put', ↓reduceIte, seval, f3], by simp (disch := first | omega | (simp only [lnv]; omega)) only [wlk, ↓get_put', ↓reduceIte, seval, f4]; rfl, fun p hp => ?_⟩
  by_cases e : p = j
  · rw [e]; exact ⟨by omega, by omega⟩
  · exact hin p (by omega)
end Go.Proofs.Ytclpemggclmgeaa

set_option maxRecDepth 100000
set_option maxHeartbeats 8000000
set_option linter.all false
namespace Go.Proofs.Ytclpemggclmgeaa
open Go Go.Ev
theorem Eds.own {h : H} {v : V} {K : List Ek} {i : Nat} (a : Eds h v K) (hi : i < K.length) : ∀ q, isOf (K.getD i default).cv q → B.val q < B.val h.next := by
  have := (a.at hi).2
  rcases this with ⟨e, _⟩ | ⟨id, g, off, fin, cap, e, _, hl, _⟩
  · rintro q ⟨_, _, _, _, _, e2⟩; rw [e] at e2; cases e2
  · rintro q ⟨_, _, _, _, _, e2⟩; rw [e] at e2; cases e2; exact hl
theorem few_sz {k : Ek} (f : Few1 k) : ∀ t ∈ k.e.come, t.fst.length ≤ 1000000 ∧ t.lst.length ≤ 1000000 := fun t ht => by
  obtain ⟨j, hj, rfl⟩ := in_getD ht
  have := f.2.2 j hj; omega
theorem sheetRules_ok {h : H} {v : V} {K : List Ek} (a : Eds h v K) (hl : K.length ≤ 9223372036854775807) (hf : B.val h.floor ≤ B.val h.next) : FnOk Try.prog 5 [v] h fun y h' => y = .b true := by
  refine fn_go c5 (by intro hb; cases hb) (by simp) (by simp) fun Q hQ => ?_
  simp only [slotsF, Nat.reduceAdd]
  repeat' (first
    | refine St.h ?_
    | simp (disch := first | omega | (simp only [lnv]; omega)) only [wlk, ↓get_put', ↓reduceIte, seval]
    | (with_reducible (first | apply cd_split | apply gd_split)) <;> (intro hc; (try simp only [hcn] at hc); (try simp only [hc]); (try simp only [hcl] at hc); try omega))
  refine CL.pure known13 ?_
  repeat' (first
    | refine St.h ?_
    | simp (disch := first | omega | (simp only [lnv]; omega)) only [wlk, ↓get_put', ↓reduceIte, seval]
    | (with_reducible (first | apply cd_split | apply gd_split)) <;> (intro hc; (try simp only [hcn] at hc); (try simp only [hc]); (try simp only [hcl] at hc); try omega))
  refine CL.mk (few_ok a hl) ?_
  rintro _ _ ⟨r, rfl, hr, rfl⟩
  cases r with
  | false =>
    repeat' (first
      | refine St.h ?_
      | simp (disch := first | omega | (simp only [lnv]; omega)) only [wlk, ↓get_put', ↓reduceIte, seval]
      | (with_reducible (first | apply cd_split | apply gd_split)) <;> (intro hc; (try simp only [hcn] at hc); (try simp only [hc]); (try simp only [hcl] at hc); try omega))
    subst hQ
    rfl
  | true =>
  have F := hr rfl
  repeat' (first
    | refine St.h ?_
    | simp (disch := first | omega | (simp only [lnv]; omega)) only [wlk, ↓get_put', ↓reduceIte, seval]
    | (with_reducible (first | apply cd_split | apply gd_split)) <;> (intro hc; (try simp only [hcn] at hc); (try simp only [hc]); (try simp only [hcl] at hc); try omega))
  refine CL.mk (snew_ok hf) ?_
  rintro _ h1 ⟨rfl, a1, n1, s1⟩
  repeat' (first
    | refine St.h ?_
    | simp (disch := first | omega | (simp only [lnv]; omega)) only [wlk, ↓get_put', ↓reduceIte, seval]
    | (with_reducible (first | apply cd_split | apply gd_split)) <;> (intro hc; (try simp only [hcn] at hc); (try simp only [hc]); (try simp only [hcl] at hc); try omega))
  refine Ok.lp (fun m t g => ∃ (i : Nat) (u : V) (S : Sht), m = K.length - i ∧ i ≤ K.length ∧ get 0 t = v ∧ get 3 t = .p h.next 0 0 4 ∧ get 4 t = .i .i64 (i : Int) ∧ ShP g h.next u S ∧ Wf S ∧ Stay nowhere h g) K.length ?_ ?_
  · simp (disch := first | omega | (simp only [lnv]; omega)) only [wlk, ↓get_put', ↓reduceIte, seval]
    refine ⟨0, .l0, shtZ, by omega, by omega, ?_⟩
    refine ⟨?_, ?_, ?_, a1, wfZ, s1⟩
    all_goals first | trivial | rfl
  rintro I hI m t g ⟨i, u, S, rfl, hi, f0, f3, f4, sp, wf, st⟩
  have ag := a.grow st
  have hfg := st.fl hf
  have hls := wf.len
  by_cases hil : i < K.length
  case neg =>
    obtain rfl : i = K.length := by omega
    have d1 : ((K.length : Int) < (K.length : Int)) = False := eq_false (by omega)
    repeat' (first
      | refine St.h ?_
      | simp (disch := first | omega | (simp only [lnv]; omega)) only [wlk, ↓get_put', ↓reduceIte, seval, f0, f3, f4, d1, a.ln]
      | (with_reducible (first | apply cd_split | apply gd_split)) <;> (intro hc; (try simp only [hcn] at hc); (try simp only [hc]); (try simp only [hcl] at hc); try omega))
    subst hQ
    rfl
  have d1 : ((i : Int) < (K.length : Int)) = True := eq_true (by omega)
  repeat' (first
    | refine St.h ?_
    | simp (disch := first | omega | (simp only [lnv]; omega)) only [wlk, ↓get_put', ↓reduceIte, seval, f0, f3, f4, d1, a.ln]
    | (with_reducible (first | apply cd_split | apply gd_split)) <;> (intro hc; (try simp only [hcn] at hc); (try simp only [hc]); (try simp only [hcl] at hc); try omega))
  refine CL.pure (slog_ok sp) ?_
  repeat' (first
    | refine St.h ?_
    | simp (disch := first | omega | (simp only [lnv]; omega)) only [wlk, ↓get_put', ↓reduceIte, seval, f0, f3, f4]
    | (with_reducible (first | apply cd_split | apply gd_split)) <;> (intro hc; (try simp only [hcn] at hc); (try simp only [hc]); (try simp only [hcl] at hc); try omega))
  refine CL.pure (sseq_ok sp) ?_
  repeat' (first
    | refine St.h ?_
    | simp (disch := first | omega | (simp only [lnv]; omega)) only [wlk, ↓get_put', ↓reduceIte, seval, f0, f3, f4]
    | (with_reducible (first | apply cd_split | apply gd_split)) <;> (intro hc; (try simp only [hcn] at hc); (try simp only [hc]); (try simp only [hcl] at hc); try omega))
  refine CL.pure (snext_ok sp) ?_
  repeat' (first
    | refine St.h ?_
    | simp (disch := first | omega | (simp only [lnv]; omega)) only [wlk, ↓get_put', ↓reduceIte, seval, f0, f3, f4]
    | (with_reducible (first | apply cd_split | apply gd_split)) <;> (intro hc; (try simp only [hcn] at hc); (try simp only [hc]); (try simp only [hcl] at hc); try omega))
  refine CL.mk (stabs_ok sp (by omega) hfg) ?_
  rintro w g2 ⟨w1, w2, s2⟩
  have sp2 := sp.grow s2
  have ag2 := ag.grow s2
  have hf2 := s2.fl hfg
  have f1 := F.2 i hil
  repeat' (first
    | refine St.h ?_
    | simp (disch := first | omega | (simp only [lnv]; omega)) only [wlk, ↓get_put', ↓reduceIte, seval, f0, f3, f4, ag2.ix, ag2.la, Int.toNat_natCast]
    | (with_reducible (first | apply cd_split | apply gd_split)) <;> (intro hc; (try simp only [hcn] at hc); (try simp only [hc]); (try simp only [hcl] at hc); try omega))
  refine CL.mk (do_ok sp2 wf (ag2.at hil) (by have := f1.1; omega) (by have := f1.2.1; omega) (few_sz f1) hf2 fun q hq e => by have := Eds.own a hil q hq; rw [e] at this; omega) ?_
  rintro _ g3 ⟨rfl, u3, sp3, ow3, s3⟩
  have wf3 := do_wf (e := (K.getD i default).e) wf
  have mono := do_mono (e := (K.getD i default).e) wf
  have hls3 := wf3.len
  generalize (doS S (K.getD i default).e).1 = er at *
  generalize (doS S (K.getD i default).e).2 = S3 at *
  have t3 : Stay nowhere h g3 := (st.trans s2).past' s3 fun q e => by rw [e]; exact Nat.le_refl _
  have hf3 := t3.fl hf
  have w3 : Tbs g3 w S.L := Ss.stay w1.tbs s3 fun q hq e => by have h1 := w2 q hq; have := sp.lt.1; rw [e] at h1; omega
  have e1 : (S3.log < S.log) = False := eq_false (by omega)
  have e2 : (S3.seq < S.seq) = False := eq_false (by omega)
  have e3 : (S3.next < S.next) = False := eq_false (by omega)
  repeat' (first
    | refine St.h ?_
    | simp (disch := first | omega | (simp only [lnv]; omega)) only [wlk, ↓get_put', ↓reduceIte, seval, f0, f3, f4]
    | (with_reducible (first | apply cd_split | apply gd_split)) <;> (intro hc; (try simp only [hcn] at hc); (try simp only [hc]); (try simp only [hcl] at hc); try omega))
  refine CL.pure (slog_ok sp3) ?_
  repeat' (first
    | refine St.h ?_
    | simp (disch := first | omega | (simp only [lnv]; omega)) only [wlk, ↓get_put', ↓reduceIte, seval, f0, f3, f4, e1]
    | (with_reducible (first | apply cd_split | apply gd_split)) <;> (intro hc; (try simp only [hcn] at hc); (try simp only [hc]); (try simp only [hcl] at hc); try omega))
  refine CL.pure (sseq_ok sp3) ?_
  repeat' (first
    | refine St.h ?_
    | simp (disch := first | omega | (simp only [lnv]; omega)) only [wlk, ↓get_put', ↓reduceIte, seval, f0, f3, f4, e2]
    | (with_reducible (first | apply cd_split | apply gd_split)) <;> (intro hc; (try simp only [hcn] at hc); (try simp only [hc]); (try simp only [hcl] at hc); try omega))
  refine CL.pure (snext_ok sp3) ?_
  by_cases h0 : er = 0
  · have e4 := eq_true h0
    have sp4 := sp3
    have hf4 := hf3
    have t4 := t3
    repeat' (first
      | refine St.h ?_
      | simp (disch := first | omega | (simp only [lnv]; omega)) only [wlk, ↓get_put', ↓reduceIte, seval, f0, f3, f4, e3, e4]
      | (with_reducible (first | apply cd_split | apply gd_split)) <;> (intro hc; (try simp only [hcn] at hc); (try simp only [hc]); (try simp only [hcl] at hc); try omega))
    refine CL.mk (stier_ok sp4 (by omega) hf4) ?_
    rintro x g5 ⟨x1, s5⟩
    have t5 := t4.trans s5
    have sp5 := sp4.grow s5
    have hf5 := t5.fl hf
    repeat' (first
      | refine St.h ?_
      | simp (disch := first | omega | (simp only [lnv]; omega)) only [wlk, ↓get_put', ↓reduceIte, seval, f0, f3, f4]
      | (with_reducible (first | apply cd_split | apply gd_split)) <;> (intro hc; (try simp only [hcn] at hc); (try simp only [hc]); (try simp only [hcl] at hc); try omega))
    have tlen : (S3.L.filter fun t => decide (t.tier = 1)).length ≤ S3.L.length := List.length_filter_le _ _
    refine Ok.lp (fun m t g => ∃ j : Nat, m = (S3.L.filter fun t => decide (t.tier = 1)).length + 1 - j ∧ 1 ≤ j ∧ j ≤ (S3.L.filter fun t => decide (t.tier = 1)).length + 1 ∧ get 0 t = v ∧ get 3 t = .p h.next 0 0 4 ∧ get 4 t = .i .i64 (i : Int) ∧ get 10 t = x ∧ get 11 t = .i .i64 (j : Int) ∧ g5 = g) (S3.L.filter fun t => decide (t.tier = 1)).length ?_ ?_
    · simp (disch := first | omega | (simp only [lnv]; omega)) only [wlk, ↓get_put', ↓reduceIte, seval, f0, f3, f4]
      refine ⟨1, by omega, by omega, by omega, ?_⟩
      refine ⟨?_, ?_, ?_, ?_, ?_⟩
      all_goals first | trivial | rfl
    rintro I2 hI2 m2 t2 g6 ⟨j, rfl, hj1, hj2, f0, f3, f4, f10, f11, rfl⟩
    by_cases hjl : j < (S3.L.filter fun t => decide (t.tier = 1)).length
    · have d2 : ((j : Int) < ((S3.L.filter fun t => decide (t.tier = 1)).length : Int)) = True := eq_true (by omega)
      have ej : ((j : Int) - 1).toNat = j - 1 := by omega
      have lt := tier1_lt wf3 (by omega) hjl
      have hj3 : j - 1 < (S3.L.filter fun t => decide (t.tier = 1)).length := by omega
      repeat' (first
        | refine St.h ?_
        | simp (disch := first | omega | (simp only [lnv]; omega)) only [wlk, ↓get_put', ↓reduceIte, seval, f0, f3, f4, f10, f11, d2, x1.ln, ej, x1.ix, x1.l2, x1.l3, Int.toNat_natCast, lt]
        | (with_reducible (first | apply cd_split | apply gd_split)) <;> (intro hc; (try simp only [hcn] at hc); (try simp only [hc]); (try simp only [hcl] at hc); try omega))
      exact lp_next hI2 ((S3.L.filter fun t => decide (t.tier = 1)).length + 1 - (j + 1)) (by omega) ⟨j + 1, rfl, by omega, by omega, by simp (disch := first | omega | (simp only [lnv]; omega)) only [wlk, ↓get_put', ↓reduceIte, seval, f0], by simp (disch := first | omega | (simp only [lnv]; omega)) only [wlk, ↓get_put', ↓reduceIte, seval, f3], by simp (disch := first | omega | (simp only [lnv]; omega)) only [wlk, ↓get_put', ↓reduceIte, seval, f4], by simp (disch := first | omega | (simp only [lnv]; omega)) only [wlk, ↓get_put', ↓reduceIte, seval, f10], by simp (disch := first | omega | (simp only [lnv]; omega)) only [wlk, ↓get_put', ↓reduceIte, seval, f11]; rfl, rfl⟩
    have d2 : ((j : Int) < ((S3.L.filter fun t => decide (t.tier = 1)).length : Int)) = False := eq_false (by omega)
    repeat' (first
      | refine St.h ?_
      | simp (disch := first | omega | (simp only [lnv]; omega)) only [wlk, ↓get_put', ↓reduceIte, seval, f0, f3, f4, f10, f11, d2, x1.ln]
      | (with_reducible (first | apply cd_split | apply gd_split)) <;> (intro hc; (try simp only [hcn] at hc); (try simp only [hc]); (try simp only [hcl] at hc); try omega))
    refine CL.mk (stabs_ok sp5 (by omega) hf5) ?_
    rintro w7 g7 ⟨w71, _, s7⟩
    have t7 := t5.trans s7
    have d3 : ((40 : Int) < (S3.L.length : Int)) = False := eq_false (by omega)
    repeat' (first
      | refine St.h ?_
      | simp (disch := first | omega | (simp only [lnv]; omega)) only [wlk, ↓get_put', ↓reduceIte, seval, f0, f3, f4, f10, f11, w71.tbs.ln, d3]
      | (with_reducible (first | apply cd_split | apply gd_split)) <;> (intro hc; (try simp only [hcn] at hc); (try simp only [hc]); (try simp only [hcl] at hc); try omega))
    refine CL.mk (stabs_ok (sp5.grow s7) (by omega) (t7.fl hf)) ?_
    rintro w8 g8 ⟨w81, _, s8⟩
    have t8 := t7.trans s8
    repeat' (first
      | refine St.h ?_
      | simp (disch := first | omega | (simp only [lnv]; omega)) only [wlk, ↓get_put', ↓reduceIte, seval, f0, f3, f4, f10, f11, w81.tbs.ln]
      | (with_reducible (first | apply cd_split | apply gd_split)) <;> (intro hc; (try simp only [hcn] at hc); (try simp only [hc]); (try simp only [hcl] at hc); try omega))
    refine CL.mk (stier_ok ((sp5.grow s7).grow s8) (by omega) (t8.fl hf)) ?_
    rintro w9 g9 ⟨w91, s9⟩
    have t9 := t8.trans s9
    have cnt := tiers_len (L := S3.L) fun t ht => (isTb_iff.1 (wf3.tb t ht)).2.2.1
    have d4 : ((S3.L.length : Int) = ((S3.L.filter fun t => decide (t.tier = 0)).length : Int) + ((S3.L.filter fun t => decide (t.tier = 1)).length : Int)) = True := eq_true (by omega)
    repeat' (first
      | refine St.h ?_
      | simp (disch := first | omega | (simp only [lnv]; omega)) only [wlk, ↓get_put', ↓reduceIte, seval, f0, f3, f4, f10, f11, w91.ln, x1.ln, d4]
      | (with_reducible (first | apply cd_split | apply gd_split)) <;> (intro hc; (try simp only [hcn] at hc); (try simp only [hc]); (try simp only [hcl] at hc); try omega))
    exact lp_next hI (K.length - (i + 1)) (by omega) ⟨i + 1, u3, S3, rfl, by omega, by simp (disch := first | omega | (simp only [lnv]; omega)) only [wlk, ↓get_put', ↓reduceIte, seval, f0], by simp (disch := first | omega | (simp only [lnv]; omega)) only [wlk, ↓get_put', ↓reduceIte, seval, f3], by simp (disch := first | omega | (simp only [lnv]; omega)) only [wlk, ↓get_put', ↓reduceIte, seval, f4]; rfl, ((sp5.grow s7).grow s8).grow s9, wf3, t9⟩
  · have e4 := eq_false h0
    obtain rfl : S3 = S := mono.2.2.2 h0
    repeat' (first
      | refine St.h ?_
      | simp (disch := first | omega | (simp only [lnv]; omega)) only [wlk, ↓get_put', ↓reduceIte, seval, f0, f3, f4, e3, e4]
      | (with_reducible (first | apply cd_split | apply gd_split)) <;> (intro hc; (try simp only [hcn] at hc); (try simp only [hc]); (try simp only [hcl] at hc); try omega))
    refine CL.pure (slog_ok sp3) ?_
    repeat' (first
      | refine St.h ?_
      | simp (disch := first | omega | (simp only [lnv]; omega)) only [wlk, ↓get_put', ↓reduceIte, seval, f0, f3, f4]
      | (with_reducible (first | apply cd_split | apply gd_split)) <;> (intro hc; (try simp only [hcn] at hc); (try simp only [hc]); (try simp only [hcl] at hc); try omega))
    refine CL.pure (sseq_ok sp3) ?_
    repeat' (first
      | refine St.h ?_
      | simp (disch := first | omega | (simp only [lnv]; omega)) only [wlk, ↓get_put', ↓reduceIte, seval, f0, f3, f4]
      | (with_reducible (first | apply cd_split | apply gd_split)) <;> (intro hc; (try simp only [hcn] at hc); (try simp only [hc]); (try simp only [hcl] at hc); try omega))
    refine CL.pure (snext_ok sp3) ?_
    repeat' (first
      | refine St.h ?_
      | simp (disch := first | omega | (simp only [lnv]; omega)) only [wlk, ↓get_put', ↓reduceIte, seval, f0, f3, f4]
      | (with_reducible (first | apply cd_split | apply gd_split)) <;> (intro hc; (try simp only [hcn] at hc); (try simp only [hc]); (try simp only [hcl] at hc); try omega))
    refine CL.mk (stabs_ok sp3 (by omega) hf3) ?_
    rintro wa g4 ⟨wa1, _, s4⟩
    have t4 := t3.trans s4
    have sp4 := sp3.grow s4
    have hf4 := t4.fl hf
    repeat' (first
      | refine St.h ?_
      | simp (disch := first | omega | (simp only [lnv]; omega)) only [wlk, ↓get_put', ↓reduceIte, seval, f0, f3, f4]
      | (with_reducible (first | apply cd_split | apply gd_split)) <;> (intro hc; (try simp only [hcn] at hc); (try simp only [hc]); (try simp only [hcl] at hc); try omega))
    refine CL.pure (same_ok wa1.tbs (w3.grow s4) (by omega)) ?_
    repeat' (first
      | refine St.h ?_
      | simp (disch := first | omega | (simp only [lnv]; omega)) only [wlk, ↓get_put', ↓reduceIte, seval, f0, f3, f4]
      | (with_reducible (first | apply cd_split | apply gd_split)) <;> (intro hc; (try simp only [hcn] at hc); (try simp only [hc]); (try simp only [hcl] at hc); try omega))
    refine CL.mk (stier_ok sp4 (by omega) hf4) ?_
    rintro x g5 ⟨x1, s5⟩
    have t5 := t4.trans s5
    have sp5 := sp4.grow s5
    have hf5 := t5.fl hf
    repeat' (first
      | refine St.h ?_
      | simp (disch := first | omega | (simp only [lnv]; omega)) only [wlk, ↓get_put', ↓reduceIte, seval, f0, f3, f4]
      | (with_reducible (first | apply cd_split | apply gd_split)) <;> (intro hc; (try simp only [hcn] at hc); (try simp only [hc]); (try simp only [hcl] at hc); try omega))
    have tlen : (S3.L.filter fun t => decide (t.tier = 1)).length ≤ S3.L.length := List.length_filter_le _ _
    refine Ok.lp (fun m t g => ∃ j : Nat, m = (S3.L.filter fun t => decide (t.tier = 1)).length + 1 - j ∧ 1 ≤ j ∧ j ≤ (S3.L.filter fun t => decide (t.tier = 1)).length + 1 ∧ get 0 t = v ∧ get 3 t = .p h.next 0 0 4 ∧ get 4 t = .i .i64 (i : Int) ∧ get 10 t = x ∧ get 11 t = .i .i64 (j : Int) ∧ g5 = g) (S3.L.filter fun t => decide (t.tier = 1)).length ?_ ?_
    · simp (disch := first | omega | (simp only [lnv]; omega)) only [wlk, ↓get_put', ↓reduceIte, seval, f0, f3, f4]
      refine ⟨1, by omega, by omega, by omega, ?_⟩
      refine ⟨?_, ?_, ?_, ?_, ?_⟩
      all_goals first | trivial | rfl
    rintro I2 hI2 m2 t2 g6 ⟨j, rfl, hj1, hj2, f0, f3, f4, f10, f11, rfl⟩
    by_cases hjl : j < (S3.L.filter fun t => decide (t.tier = 1)).length
    · have d2 : ((j : Int) < ((S3.L.filter fun t => decide (t.tier = 1)).length : Int)) = True := eq_true (by omega)
      have ej : ((j : Int) - 1).toNat = j - 1 := by omega
      have lt := tier1_lt wf3 (by omega) hjl
      have hj3 : j - 1 < (S3.L.filter fun t => decide (t.tier = 1)).length := by omega
      repeat' (first
        | refine St.h ?_
        | simp (disch := first | omega | (simp only [lnv]; omega)) only [wlk, ↓get_put', ↓reduceIte, seval, f0, f3, f4, f10, f11, d2, x1.ln, ej, x1.ix, x1.l2, x1.l3, Int.toNat_natCast, lt]
        | (with_reducible (first | apply cd_split | apply gd_split)) <;> (intro hc; (try simp only [hcn] at hc); (try simp only [hc]); (try simp only [hcl] at hc); try omega))
      exact lp_next hI2 ((S3.L.filter fun t => decide (t.tier = 1)).length + 1 - (j + 1)) (by omega) ⟨j + 1, rfl, by omega, by omega, by simp (disch := first | omega | (simp only [lnv]; omega)) only [wlk, ↓get_put', ↓reduceIte, seval, f0], by simp (disch := first | omega | (simp only [lnv]; omega)) only [wlk, ↓get_put', ↓reduceIte, seval, f3], by simp (disch := first | omega | (simp only [lnv]; omega)) only [wlk, ↓get_put', ↓reduceIte, seval, f4], by simp (disch := first | omega | (simp only [lnv]; omega)) only [wlk, ↓get_put', ↓reduceIte, seval, f10], by simp (disch := first | omega | (simp only [lnv]; omega)) only [wlk, ↓get_put', ↓reduceIte, seval, f11]; rfl, rfl⟩
    have d2 : ((j : Int) < ((S3.L.filter fun t => decide (t.tier = 1)).length : Int)) = False := eq_false (by omega)
    repeat' (first
      | refine St.h ?_
      | simp (disch := first | omega | (simp only [lnv]; omega)) only [wlk, ↓get_put', ↓reduceIte, seval, f0, f3, f4, f10, f11, d2, x1.ln]
      | (with_reducible (first | apply cd_split | apply gd_split)) <;> (intro hc; (try simp only [hcn] at hc); (try simp only [hc]); (try simp only [hcl] at hc); try omega))
    refine CL.mk (stabs_ok sp5 (by omega) hf5) ?_
    rintro w7 g7 ⟨w71, _, s7⟩
    have t7 := t5.trans s7
    have d3 : ((40 : Int) < (S3.L.length : Int)) = False := eq_false (by omega)
    repeat' (first
      | refine St.h ?_
      | simp (disch := first | omega | (simp only [lnv]; omega)) only [wlk, ↓get_put', ↓reduceIte, seval, f0, f3, f4, f10, f11, w71.tbs.ln, d3]
      | (with_reducible (first | apply cd_split | apply gd_split)) <;> (intro hc; (try simp only [hcn] at hc); (try simp only [hc]); (try simp only [hcl] at hc); try omega))
    refine CL.mk (stabs_ok (sp5.grow s7) (by omega) (t7.fl hf)) ?_
    rintro w8 g8 ⟨w81, _, s8⟩
    have t8 := t7.trans s8
    repeat' (first
      | refine St.h ?_
      | simp (disch := first | omega | (simp only [lnv]; omega)) only [wlk, ↓get_put', ↓reduceIte, seval, f0, f3, f4, f10, f11, w81.tbs.ln]
      | (with_reducible (first | apply cd_split | apply gd_split)) <;> (intro hc; (try simp only [hcn] at hc); (try simp only [hc]); (try simp only [hcl] at hc); try omega))
    refine CL.mk (stier_ok ((sp5.grow s7).grow s8) (by omega) (t8.fl hf)) ?_
    rintro w9 g9 ⟨w91, s9⟩
    have t9 := t8.trans s9
    have cnt := tiers_len (L := S3.L) fun t ht => (isTb_iff.1 (wf3.tb t ht)).2.2.1
    have d4 : ((S3.L.length : Int) = ((S3.L.filter fun t => decide (t.tier = 0)).length : Int) + ((S3.L.filter fun t => decide (t.tier = 1)).length : Int)) = True := eq_true (by omega)
    repeat' (first
      | refine St.h ?_
      | simp (disch := first | omega | (simp only [lnv]; omega)) only [wlk, ↓get_put', ↓reduceIte, seval, f0, f3, f4, f10, f11, w91.ln, x1.ln, d4]
      | (with_reducible (first | apply cd_split | apply gd_split)) <;> (intro hc; (try simp only [hcn] at hc); (try simp only [hc]); (try simp only [hcl] at hc); try omega))
    exact lp_next hI (K.length - (i + 1)) (by omega) ⟨i + 1, u3, S3, rfl, by omega, by simp (disch := first | omega | (simp only [lnv]; omega)) only [wlk, ↓get_put', ↓reduceIte, seval, f0], by simp (disch := first | omega | (simp only [lnv]; omega)) only [wlk, ↓get_put', ↓reduceIte, seval, f3], by simp (disch := first | omega | (simp only [lnv]; omega)) only [wlk, ↓get_put', ↓reduceIte, seval, f4]; rfl, ((sp5.grow s7).grow s8).grow s9, wf3, t9⟩
end Go.Proofs.Ytclpemggclmgeaa

set_option linter.all false
namespace Go.Proofs.Ytclpemggclmgeaa
open Go Go.Ev Go.RowKit Go.WideShapes Go.ChangeShapes Go.ChangeAt Go.Deep
/-- an edit's type -/
structure EdF (P : Program) (t : TypeId) (fs : Array Field) : Prop where
  ut : P.underlying t = some (.struct fs)
  sz : P.cellsOf t = 4
  f0 : ∃ f, fs.toList[0]? = some f ∧ f.offset = 0 ∧ P.cellsOf f.type = 1 ∧ ∃ e, P.underlying f.type = some (.slice e) ∧ P.cellsOf e = 1 ∧ P.underlying e = some (.int .i64)
  f1 : ∃ f, fs.toList[1]? = some f ∧ f.offset = 1 ∧ P.cellsOf f.type = 1 ∧ ∃ e gs, P.underlying f.type = some (.slice e) ∧ FlatF P e gs [.i .i64, .i .i64, .s, .s, .i .i64]
  f2 : ∃ f, fs.toList[2]? = some f ∧ f.offset = 2 ∧ P.cellsOf f.type = 1 ∧ P.underlying f.type = some (.int .i64)
  f3 : ∃ f, fs.toList[3]? = some f ∧ f.offset = 3 ∧ P.cellsOf f.type = 1 ∧ P.underlying f.type = some (.int .i64)
section
variable {H' : Type} {enc : TypeId × Value → H'} {P : Program} {W : World}
theorem str_flds {t : TypeId} {fs : Array Field} {fuel : Nat} {cs : List Value} {x : DataW H' × List MemPlace} (ut : P.underlying t = some (.struct fs)) (hd : DataW.trod enc P W 0 (fun _ => true) true fuel t cs = some x) :
    cs.length = P.cellsOf t ∧ ∀ (i : Nat) f, fs.toList[i]? = some f → ∃ n y, DataW.trod enc P W 0 (fun _ => true) true n f.type ((cs.drop f.offset).take (P.cellsOf f.type)) = some y := by
  cases fuel with
  | zero => simp [DataW.trod] at hd
  | succ n =>
    unfold DataW.trod at hd
    rw [ut] at hd
    simp only at hd
    split at hd
    · rename_i hl
      refine ⟨hl, fun i f hf => ?_⟩
      rw [Option.map_eq_some_iff] at hd
      obtain ⟨xs, hx, _⟩ := hd
      have := mapM_some_get hx i f hf
      have hlen := mapM_some_length hx
      have hi : i < xs.length := by rw [hlen]; exact (List.getElem?_eq_some_iff.1 hf).1
      exact ⟨n, xs[i], by rw [this]; simp⟩
    · cases hd
/-- a row of tables -/
theorem ts_of {h : H} (s : Go.Ev.Start W h) (h0 : 0 < W.heap.size) {t e : TypeId} {fs : Array Field} {fuel : Nat} {cs : List Value} {x : DataW H' × List MemPlace} (ht : P.underlying t = some (.slice e)) (F : FlatF P e fs [.i .i64, .i .i64, .s, .s, .i .i64])
    (hd : DataW.trod enc P W 0 (fun _ => true) true fuel t cs = some x) : ∃ sv L, cs = [sv] ∧ Tbs h (absV W sv) L ∧ L.length ≤ 9223372036854775807 ∧ ∀ a ∈ L, True :=
  rows_of (c := tblC) (Pr := fun _ => True) tblC_len (by omega) s h0 ht F.sz (fun fuel cs x h => by
    obtain ⟨_, _, rfl, ⟨a, rfl, _⟩, _, _, rfl, ⟨b, rfl, _⟩, _, _, rfl, ⟨c, rfl, _⟩, _, _, rfl, ⟨d, rfl, _⟩, _, _, rfl, ⟨e, rfl, _⟩, rfl⟩ := flat_fits F h
    refine ⟨⟨a, b, c.data.toList, d.data.toList, e⟩, ?_, trivial⟩
    simp only [List.map_cons, List.map_nil, absV_int, absV_str]
    rfl) hd
/-- a row of edits -/
theorem eds_of {h : H} (s : Go.Ev.Start W h) (h0 : 0 < W.heap.size) {t e : TypeId} {fs : Array Field} {fuel : Nat} {cs : List Value} {x : DataW H' × List MemPlace} (ht : P.underlying t = some (.slice e)) (F : EdF P e fs)
    (hd : DataW.trod enc P W 0 (fun _ => true) true fuel t cs = some x) : ∃ sv K, cs = [sv] ∧ Eds h (absV W sv) K ∧ K.length ≤ 9223372036854775807 ∧ ∀ a ∈ K, True := by
  obtain ⟨sv, K, e1, e2, e3, e4⟩ := rows_of (α := Ek) (c := ekC) (n := 4) (Pr := fun k => EdM h k.gv k.cv k.e) ekC_len (by omega) s h0 ht F.sz (fun fuel cs x hx => by
    obtain ⟨hl, hf⟩ := str_flds F.ut hx
    rw [F.sz] at hl
    obtain ⟨c0, c1, c2, c3, rfl⟩ : ∃ c0 c1 c2 c3, cs = [c0, c1, c2, c3] := by
      match cs, hl with
      | [a, b, c, d], _ => exact ⟨a, b, c, d, rfl⟩
    obtain ⟨f0, g0, o0, z0, t0, u0, v0, w0⟩ := F.f0
    obtain ⟨f1, g1, o1, z1, t1, gs, u1, F1⟩ := F.f1
    obtain ⟨f2, g2, o2, z2, u2⟩ := F.f2
    obtain ⟨f3, g3, o3, z3, u3⟩ := F.f3
    obtain ⟨n0, y0, k0⟩ := hf 0 f0 g0
    obtain ⟨n1, y1, k1⟩ := hf 1 f1 g1
    obtain ⟨n2, y2, k2⟩ := hf 2 f2 g2
    obtain ⟨n3, y3, k3⟩ := hf 3 f3 g3
    rw [o0, z0] at k0
    rw [o1, z1] at k1
    rw [o2, z2] at k2
    rw [o3, z3] at k3
    obtain ⟨x0, xs, e0, m0, _⟩ := lk_of s h0 u0 v0 w0 k0
    obtain ⟨x1, L, e1, m1, _⟩ := ts_of s h0 u1 F1 k1
    obtain ⟨a, e2, _⟩ := DataW.trod_int u2 k2
    obtain ⟨b, e3, _⟩ := DataW.trod_int u3 k3
    obtain rfl := (List.cons.inj (show [c0] = [x0] from e0)).1
    obtain rfl := (List.cons.inj (show [c1] = [x1] from e1)).1
    obtain rfl := (List.cons.inj (show [c2] = [_] from e2)).1
    obtain rfl := (List.cons.inj (show [c3] = [_] from e3)).1
    refine ⟨⟨absV W c0, absV W c1, ⟨xs, L, a, b⟩⟩, ?_, m0, m1⟩
    simp only [List.map_cons, List.map_nil, absV_int]
    rfl) hd
  exact ⟨sv, K, e1, ⟨e2, e4⟩, e3, fun _ _ => trivial⟩
end
end Go.Proofs.Ytclpemggclmgeaa

namespace Go.Proofs.Ytclpemggclmgeaa.sheetRules
open Go Go.Ev Go.ChangeShapes Go.WideShapes Go.ChangeAt Go.RowKit Go.ChangeMaps
set_option linter.all false
theorem own : ownKnob Try.prog.godebug = none := by kernel_rfl
theorem laid : laidOutB Try.prog = true := by kernel_rfl
theorem heap_pos {W : World} (h : W.ShapedOpen Try.prog) : 0 < W.heap.size := by
  obtain ⟨o, _, h1, _⟩ := h.2 Try.prog.globals.size (Nat.le_refl _) (of_decide_eq_true (by kernel_rfl))
  exact Nat.lt_of_le_of_lt (Nat.zero_le _) (Array.getElem?_eq_some_iff.1 h1).1
set_option maxRecDepth 100000 in
theorem isR0 : ∃ fs, EdF Try.prog 36 fs := ⟨_, ⟨Try.underlying36, by kernel_rfl, ⟨_, rfl, rfl, by kernel_rfl, _, Try.underlying34, by kernel_rfl, Try.underlying3⟩, ⟨_, rfl, rfl, by kernel_rfl, _, _, Try.underlying33, ⟨Try.underlying32, by kernel_rfl, ⟨⟨_, rfl, rfl, by kernel_rfl, Try.underlying3⟩, ⟨_, rfl, rfl, by kernel_rfl, Try.underlying3⟩, ⟨_, rfl, rfl, by kernel_rfl, Try.underlying9⟩, ⟨_, rfl, rfl, by kernel_rfl, Try.underlying9⟩, ⟨_, rfl, rfl, by kernel_rfl, Try.underlying3⟩, trivial⟩⟩⟩, ⟨_, rfl, rfl, by kernel_rfl, Try.underlying3⟩, ⟨_, rfl, rfl, by kernel_rfl, Try.underlying3⟩⟩⟩
set_option maxRecDepth 100000 in
theorem run {H : Type} {enc : TypeId × Value → H} (W : World) (base : Nat) (args : Array Value) (ds : List (DataW H)) (p : List MemPlace) (hval : ∀ (j : Nat) t v, Try.f5.params[j]? = some t → args[j]? = some v → Value.okWide Try.prog W .any base t v) (hopen : W.ShapedOpen Try.prog)
    (hA : DataW.TrodAll enc Try.prog W 0 (fun _ => true) true Try.f5.params.toList args.toList ds p) : Calls Try.prog 5 args W fun e w' => e = .returned (.bool true) ∧ Below W.heap.size W w' := by
  rw [Try.params5] at hA hval
  obtain ⟨v0, vs0, d0, ds0, p0, q0, hargs, rfl, rfl, h0, r0⟩ := trodAll_cons hA
  obtain ⟨rfl, rfl, rfl⟩ := trodAll_nil r0
  obtain rfl : args = #[v0] := by cases args; simp_all
  obtain ⟨h, s1, s2⟩ := Go.Ev.start W
  have s : Go.Ev.Start W h := ⟨s1, s2⟩
  obtain ⟨x0, y0, z0, rfl⟩ := okWide_slice Try.underlying22 (hval 0 22 v0 rfl rfl)
  obtain ⟨fu0, hfu0⟩ := h0
  obtain ⟨fs0, F0⟩ := isR0
  obtain ⟨u0, L0, e0, m0, l0, _⟩ := eds_of s (heap_pos hopen) Try.underlying22 F0 hfu0
  obtain rfl := (List.cons.inj (show [Value.slice x0 y0 z0] = [u0] from e0)).1
  exact calls_true s (vs := [absV W (.slice x0 y0 z0)]) ⟨absV_rel W _, trivial⟩ (sheetRules_ok m0 l0 s1.flo)
set_option maxRecDepth 100000 in
theorem lifted (os : Os) (started : os.Started) (H : Type) (enc : TypeId × Value → H) :
    ReturnsInHanded {} Try.checked os 5 .any (Rows.sheetRulesSpec.pre6 enc Try.prog Try.f5 Rows.sheetRulesRow.domain false) (Rows.sheetRulesSpec.post enc Try.prog Try.f5 false true false false) :=
  law_lifted (C := Try.checked) own started (by kernel_rfl) Try.func5
    (ChangeSpec.witness6 (enc := enc) (C := Try.checked) false ⟨#[], #[.slice none 0 0], []⟩ 8 (by kernel_rfl) (by kernel_rfl) (by kernel_rfl) (by kernel_rfl))
    rfl (fun ds hd => by rw [Try.params5] at hd; match ds, hd with | [d1], _ => rfl) laid (by kernel_rfl) (by kernel_rfl) Try.underlying4 (fun W base args ds p hv ho hA => run W base args ds p hv ho hA)
theorem over : Rows.sheetRulesRow.holds Try.pinned (OpenSpec.ofChange Rows.sheetRulesSpec) :=
  OpenClaim.holds_of_wide 5 Try.f5 rfl rfl rfl rfl rfl rfl rfl ⟨rfl, rfl, rfl, rfl, rfl⟩ rfl rfl rfl rfl rfl (by kernel_rfl) Try.func5 (by kernel_rfl)
    (of_decide_eq_true (by kernel_rfl)) (by unfold Func.isWrapper; first | (rw [if_pos (by decide +kernel)]; kernel_rfl) | (rw [if_neg (by decide +kernel)]; exact ⟨rfl, rfl⟩))
    (fun os started H enc _ => lifted os started H enc)
/-- THE STATEMENT -/
theorem proved : Rows.SheetRulesSaid :=
  over
end Go.Proofs.Ytclpemggclmgeaa.sheetRules
