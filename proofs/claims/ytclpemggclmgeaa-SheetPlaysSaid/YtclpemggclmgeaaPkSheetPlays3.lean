/- Texts of ours, without what this claim does not use: EvJ2 EvK EvL EvM EvN EvO EvQ EvR EvV EvX EvP Arg ArgS Wa Wb EvZ Wc Wd We Wg ArgR. No condition. -/
import Derived.Test.YtclpemggclmgeaaPkSheetPlays2
import Derived.Scope
import Derived.ProofKit
import Derived.HandedShaped
import Derived.Carry
import Derived.OpenShut
import Derived.Deep.Slices
import Derived.SliceStrings
set_option linter.all false
namespace Go.Ev
open Go
section
variable {P : Program} {nt : Nat} {ops : Array Oper} {Ts : Nat → F}
theorem ahead1 (hd : drawsOk ops.toList = true) {listed : Array Bool} (hc : Closed ops.toList listed) {i : Nat} {oi : Oper} (hi : ops[i]? = some oi) (hni : ¬ InL listed i) (hr : ∀ e ∈ oi.after.toList, Region.binds .any e = true → InL listed e.on)
   {q : Nat} (hq : q ∈ looks ops.toList oi ∨ oi.dst = some q) {j : Nat} {oj : Oper} (hj : ops[j]? = some oj) (hdj : oj.dst = some q) (hji : j ≠ i) : j < i ↔ InL listed j := by
 have hi' : ops.toList[i]? = some oi := by simpa using hi
 have hj' : ops.toList[j]? = some oj := by simpa using hj
 have hqj : q ∈ dstL oj := by simp [dstL, hdj]
 constructor
 · intro hlt
   rcases pair_ok hd hj' hi' hlt with h | h
   · exact h.inL hc fun o ho e he hb => by rw [hi'] at ho; cases ho; exact hr e he hb
   · simp only [slotsOk, Bool.and_eq_true] at h
     rcases hq with hq | hq
     · exact (apartL_ok h.2.1 hqj hq).elim
     · exact (apartL_ok h.1 hqj (by simp [dstL, hq])).elim
 · intro hin
   refine Decidable.byContradiction fun hlt => ?_
   have hlt' : i < j := by omega
   rcases pair_ok hd hi' hj' hlt' with h | h
   · exact hni (h.inL hc fun o ho e he hb => hc j o ho hin e he hb)
   · simp only [slotsOk, Bool.and_eq_true] at h
     rcases hq with hq | hq
     · exact (apartL_ok h.2.2 hqj hq).elim
     · exact (apartL_ok h.1 (by simp [dstL, hq]) hqj).elim
def Frm (nt : Nat) (ops : Array Oper) (Ts : Nat → F) : Prop := ∀ (i : Nat) o, ops[i]? = some o → (∀ q, o.dst = some q → q < nt ∧ q < 512) ∧ ∀ q, q < 512 → o.dst ≠ some q → sGet (slOf q) (Ts (i + 1)) = sGet (slOf q) (Ts i)
theorem slot_same1 (hs : Frm nt ops Ts) : ∀ {m n q : Nat}, q < 512 → m ≤ n → n ≤ ops.size → (∀ (j : Nat) o, ops[j]? = some o → o.dst = some q → m ≤ j → j < n → False) → sGet (slOf q) (Ts n) = sGet (slOf q) (Ts m) := by
 intro m n q hq hmn
 induction hmn with
 | refl => intro _ _; rfl
 | @step k hk ih =>
   intro hN hno
   have ho : ops[k]? = some (ops[k]'(by omega)) := Array.getElem?_eq_getElem _
   rw [(hs k _ ho).2 q hq fun e => hno k _ ho e hk (Nat.lt_succ_self _)]
   exact ih (by omega) fun j o hj hd h1 h2 => hno j o hj hd h1 (by omega)
def Slots1 (ops : Array Oper) (Ts : Nat → F) (listed : Array Bool) (a : Act) (ρ : Emb) : Prop := ∀ q, q < 512 → ∃ m, m ≤ ops.size ∧ (m = 0 ∨ ∃ j o, m = j + 1 ∧ ops[j]? = some o ∧ o.dst = some q) ∧ (∀ (j : Nat) o, ops[j]? = some o → o.dst = some q → (j < m ↔ InL listed j)) ∧ VRel ρ (sGet (slOf q) (Ts m)) (a.tmps.getD q undef)
theorem look1 (hd : drawsOk ops.toList = true) (hs : Frm nt ops Ts) {listed : Array Bool} (hc : Closed ops.toList listed) {a : Act} {ρ : Emb} (hsz : a.tmps.size = nt) (I : Slots1 ops Ts listed a ρ)
   {i : Nat} {oi : Oper} (hi : ops[i]? = some oi) (hni : ¬ InL listed i) (hr : ∀ e ∈ oi.after.toList, Region.binds .any e = true → InL listed e.on) : Looks nt ops.toList oi ρ (Ts i) a := by
 refine ⟨hsz, fun q hq h5 => ?_⟩
 obtain ⟨m, hm, hm0, hw, hv⟩ := I q h5
 have hiN : i < ops.size := (Array.getElem?_eq_some_iff.1 hi).1
 have key : ∀ (j : Nat) o, ops[j]? = some o → o.dst = some q → j ≠ i → (j < m ↔ j < i) := fun j o hj hdj hji => (hw j o hj hdj).trans (ahead1 hd hc hi hni hr (.inl hq) hj hdj hji).symm
 have self : oi.dst = some q → ¬ i < m := fun hdi h => hni ((hw i oi hi hdi).1 h)
 have hmi : m ≤ i := by
   rcases hm0 with h0 | ⟨j, o, rfl, hj, hdj⟩
   · omega
   · by_cases hji : j = i
     · subst hji
       rw [hi] at hj; cases hj
       exact absurd (Nat.lt_succ_self j) (self hdj)
     · have := (key j o hj hdj hji).1 (Nat.lt_succ_self j)
       omega
 have : sGet (slOf q) (Ts i) = sGet (slOf q) (Ts m) := by
   refine slot_same1 hs h5 hmi (by omega) fun j o hj hdj h1 h2 => ?_
   have := (key j o hj hdj (by omega)).2 h2
   omega
 rw [this]; exact hv
theorem put1 (hd : drawsOk ops.toList = true) (hs : Frm nt ops Ts) {listed : Array Bool} (hc : Closed ops.toList listed) {a : Act} {ρ : Emb} (hsz : a.tmps.size = nt) (I : Slots1 ops Ts listed a ρ)
   {i : Nat} {oi : Oper} (hi : ops[i]? = some oi) (hni : ¬ InL listed i) (hr : ∀ e ∈ oi.after.toList, Region.binds .any e = true → InL listed e.on) {listed' : Array Bool} (hl : ∀ j, InL listed' j ↔ (InL listed j ∨ j = i))
   {ρ' : Emb} (hle : ρ.le ρ') {x : Value} (hx : ∀ q, oi.dst = some q → VRel ρ' (sGet (slOf q) (Ts (i + 1))) x) : Slots1 ops Ts listed' (a.put oi.dst x) ρ' := by
 intro q h5
 have hiN : i < ops.size := (Array.getElem?_eq_some_iff.1 hi).1
 by_cases hdq : oi.dst = some q
 · refine ⟨i + 1, by omega, .inr ⟨i, oi, rfl, hi, hdq⟩, fun j o hj hdj => ?_, ?_⟩
   · rw [hl]
     by_cases hji : j = i
     · subst hji; constructor
       · intro _; exact .inr rfl
       · intro _; omega
     · have := ahead1 hd hc hi hni hr (.inr hdq) hj hdj hji
       constructor
       · intro h; exact .inl (this.1 (by omega))
       · rintro (h | h)
         · have := this.2 h; omega
         · exact absurd h hji
   · have hqn := ((hs i oi hi).1 q hdq).1
     have : ((a.put oi.dst x).tmps.getD q undef) = x := by rw [hdq]; simp [Act.put, hsz, hqn]
     rw [this]; exact hx q hdq
 · obtain ⟨m, hm, hm0, hw, hv⟩ := I q h5
   refine ⟨m, hm, hm0, fun j o hj hdj => ?_, ?_⟩
   · rw [hl, hw j o hj hdj]
     constructor
     · intro h; exact .inl h
     · rintro (h | h)
       · exact h
       · subst h; rw [hi] at hj; cases hj; exact absurd hdj hdq
   · have : ((a.put oi.dst x).tmps.getD q undef) = a.tmps.getD q undef := by
       cases hdst : oi.dst with
       | none => rfl
       | some d =>
         simp only [Act.put, Array.getD_eq_getD_getElem?, Array.getElem?_setIfInBounds]
         rw [if_neg (fun e => hdq (by rw [hdst, e]))]
     rw [this]; exact VRel.up hle _ _ hv
theorem any2 (hd : drawsOk ops.toList = true) {Hs : Nat → H} {lo : Nat → Prop} (hs : Frm nt ops Ts) (hch : ∀ i j, lo i → lo j → i < j → j < ops.size → Reach ops.toList j i)
   (hlo : ∀ (i : Nat) o, lo i → ops[i]? = some o → StepOk P nt ops i o true (Ts i) (Ts (i + 1)) (Hs i) (Hs (i + 1))) (hsm : ∀ i, i < ops.size → ¬ lo i → Hs (i + 1) = Hs i)
   (hqt : ∀ (i : Nat) o, ¬ lo i → ops[i]? = some o → (∃ g g', StepOk P nt ops i o true (Ts i) (Ts (i + 1)) g g') ∧ (still P o.op = true ∨ ∀ c, c ≤ ops.size → (∀ k, lo k → Reach ops.toList i k → k < c) → (∀ k, lo k → k < c → ¬ Reach ops.toList k i) → StepOk P nt ops i o true (Ts i) (Ts (i + 1)) (Hs c) (Hs c)))
   {ρ0 : Emb} {w0 : World} {Q : Exit → Act → World → Prop} (hQ : ∀ ρ a w, Ext (Hs 0).floor ρ0 ρ → ARel ρ nt (Ts ops.size) a → HRel ρ (Hs ops.size) w w0 → Q .normal a w) :
   ∀ (fuel : Nat) (listed : Array Bool) (a : Act) (w : World) (ρ : Emb), listed.size = ops.size → left ops.size listed ≤ fuel → Closed ops.toList listed → a.tmps.size = nt → a.defers = [] → Ext (Hs 0).floor ρ0 ρ → Slots1 ops Ts listed a ρ → (∃ c, c ≤ ops.size ∧ (∀ k, k < ops.size → lo k → (InL listed k ↔ k < c)) ∧ HRel ρ (Hs c) w w0) →
     wpAny P .any ops Q fuel listed a w := by
 have hup : edgesUp 0 ops.toList = true := by simp only [drawsOk, Bool.and_eq_true] at hd; exact hd.1
 have same : ∀ d c, c ≤ d → d ≤ ops.size → (∀ k, c ≤ k → k < d → ¬ lo k) → Hs d = Hs c := by
   intro d
   induction d with
   | zero => intro c h1 _ _; rw [Nat.le_zero.1 h1]
   | succ d ih =>
     intro c h1 h2 h3
     by_cases e : c = d + 1
     · rw [e]
     · rw [hsm d (by omega) (h3 d (by omega) (by omega))]
       exact ih c (by omega) (by omega) fun k k1 k2 => h3 k k1 (by omega)
 have flo : ∀ c, c ≤ ops.size → (Hs c).floor = (Hs 0).floor := by
   intro c
   induction c with
   | zero => intro _; rfl
   | succ c ih =>
     intro hc
     rw [← ih (by omega)]
     by_cases hl : lo c
     · obtain ⟨v, g, _, e2, _, e4, _⟩ := (hlo c _ hl (Array.getElem?_eq_getElem (show c < ops.size by omega))).ex
       simp only [if_true] at e2 e4
       rw [e4]; exact e2.1
     · rw [hsm c (by omega) hl]
 have done : ∀ {listed : Array Bool} {a : Act} {w : World} {ρ : Emb}, (∀ i, i < ops.size → InL listed i) → a.tmps.size = nt → a.defers = [] → Ext (Hs 0).floor ρ0 ρ → Slots1 ops Ts listed a ρ → (∃ c, c ≤ ops.size ∧ (∀ k, k < ops.size → lo k → (InL listed k ↔ k < c)) ∧ HRel ρ (Hs c) w w0) → Q .normal a w := fun {listed a w ρ} hall hsz hdf hE I hp => by
   obtain ⟨c, c1, c2, c3⟩ := hp
   refine hQ ρ a w hE ⟨hdf, hsz, fun q h5 => ?_⟩ (by rw [same ops.size c c1 (Nat.le_refl _) fun k k1 k2 hl => by have := (c2 k k2 hl).1 (hall k k2); omega]; exact c3)
   obtain ⟨m, hm, hm0, hw, hv⟩ := I q h5
   rw [slot_same1 hs h5 hm (Nat.le_refl _) fun j o hj hdj h1 h2 => by
     have := (hw j o hj hdj).2 (hall j h2)
     omega]
   exact hv
 intro fuel
 induction fuel with
 | zero =>
   intro listed a w ρ hsz hlf hc ha hdf hE I hp
   have hall : ∀ i, i < ops.size → InL listed i := by
     intro i hi
     have h0 : (List.range ops.size).filter (fun i => !listed.getD i false) = [] := List.eq_nil_of_length_eq_zero (by unfold left at hlf; omega)
     have := List.filter_eq_nil_iff.1 h0 i (List.mem_range.2 hi)
     unfold InL
     simpa using this
   refine ⟨?_, done hall ha hdf hE I hp⟩
   rw [List.eq_nil_iff_forall_not_mem]
   intro j hj
   obtain ⟨hj1, o, hj2, _⟩ := mem_ready.1 hj
   have hjN : j < ops.size := (Array.getElem?_eq_some_iff.1 hj2).1
   have := hall j hjN
   unfold InL at this
   have hjl : j < listed.size := by omega
   simp [hjl] at this hj1
   rw [this] at hj1; cases hj1
 | succ fuel ih =>
   intro listed a w ρ hsz hlf hc ha hdf hE I hp
   constructor
   · intro hready
     by_cases hall : ∀ i, i < ops.size → InL listed i
     · exact done hall ha hdf hE I hp
     · exfalso
       have hex : ∃ i, i < ops.size ∧ ¬ InL listed i := by
         refine Classical.byContradiction fun h => hall fun i hi => Classical.byContradiction fun h' => h ⟨i, hi, h'⟩
       have hleast : ∃ i, (i < ops.size ∧ ¬ InL listed i) ∧ ∀ j, j < i → ¬ (j < ops.size ∧ ¬ InL listed j) := by
         obtain ⟨i, hi⟩ := hex
         induction i using Nat.strongRecOn with
         | _ i ihh =>
           by_cases h : ∃ j, j < i ∧ (j < ops.size ∧ ¬ InL listed j)
           · obtain ⟨j, hj, hj'⟩ := h
             exact ihh j hj hj'
           · exact ⟨i, hi, fun j hj h' => h ⟨j, hj, h'⟩⟩
       obtain ⟨i, ⟨hi1, hi2⟩, hi3⟩ := hleast
       have hio : ops[i]? = some (ops[i]'hi1) := Array.getElem?_eq_getElem _
       have : i ∈ Region.ready .any ops listed := by
         rw [mem_ready]
         refine ⟨?_, _, hio, fun e he hb => ?_⟩
         · have hil : i < listed.size := by omega
           unfold InL at hi2
           simp [hil] at hi2 ⊢
           exact hi2
         · have hlt := edgesUp_ok ops.toList 0 hup i _ ((Array.getElem?_toList (xs := ops) (i := i)).trans hio) e (by simpa using he) hb
           have := Classical.byContradiction fun h => hi3 e.on (by omega) ⟨by omega, h⟩
           exact this
       rw [hready] at this; cases this
   · intro i hi
     obtain ⟨hi1, o, hi2, hi3⟩ := mem_ready.1 hi
     have hiN : i < ops.size := (Array.getElem?_eq_some_iff.1 hi2).1
     have hil : i < listed.size := by omega
     have hni : ¬ InL listed i := by
       unfold InL
       simp [hil] at hi1 ⊢
       exact hi1
     have hi2' : ops.toList[i]? = some o := (Array.getElem?_toList (xs := ops) (i := i)).trans hi2
     have hr : ∀ e ∈ o.after.toList, Region.binds .any e = true → InL listed e.on := fun e he hb => hi3 e (by simpa using he) hb
     have hl : ∀ j, InL (listed.setIfInBounds i true) j ↔ (InL listed j ∨ j = i) := by
       intro j
       unfold InL
       rw [Array.getD_eq_getD_getElem?, Array.getD_eq_getD_getElem?, Array.getElem?_setIfInBounds]
       by_cases hji : i = j
       · subst hji; simp [hil]
       · rw [if_neg hji]
         constructor
         · intro h; exact .inl h
         · rintro (h | h)
           · exact h
           · exact absurd h.symm hji
     have hdfx : ∀ x, (a.put o.dst x).defers = [] := fun x => by cases o.dst <;> exact hdf
     have hszx : ∀ x, (a.put o.dst x).tmps.size = nt := fun x => by cases o.dst <;> simp [Act.put, ha]
     have hlook := look1 hd hs hc ha I hi2 hni hr
     have hlf' : left ops.size (listed.setIfInBounds i true) ≤ fuel := by
       have : left ops.size (listed.setIfInBounds i true) < left ops.size listed := by
         unfold left
         refine filter_less _ _ _ (fun x _ hx => ?_) ⟨i, List.mem_range.2 hiN, ?_, ?_⟩
         · have := hl x
           unfold InL at this
           cases hx1 : listed.getD x false with
           | false => rfl
           | true => rw [this.2 (.inl hx1)] at hx; exact hx
         · unfold InL at hni
           simpa using hni
         · have := (hl i).2 (.inr rfl)
           unfold InL at this
           rw [this]; rfl
       omega
     have hc' : Closed ops.toList (listed.setIfInBounds i true) := by
       intro j oj hj hjin e he hb
       rw [hl] at hjin ⊢
       left
       rcases hjin with h | h
       · exact hc j oj hj h e he hb
       · subst h
         rw [hj] at hi2'; cases hi2'
         exact hr e he hb
     have reach : ∀ j, Reach ops.toList i j → InL listed j := fun j hR => hR.inL hc fun o' ho e he hb => by rw [hi2'] at ho; cases ho; exact hr e he hb
     obtain ⟨c, c1, c2, c3⟩ := hp
     -- the step, whichever it is
     have step : ∀ (g g' : H), StepOk P nt ops i o true (Ts i) (Ts (i + 1)) g g' → g.floor = (Hs 0).floor → HRel ρ g w w0 → (∀ ρ' w', HRel ρ' g' w' w0 → ∃ c, c ≤ ops.size ∧ (∀ k, k < ops.size → lo k → (InL (listed.setIfInBounds i true) k ↔ k < c)) ∧ HRel ρ' (Hs c) w' w0) → wpOp P ops Q i (wpAny P .any ops Q fuel (listed.setIfInBounds i true)) a w := fun g g' S hfl R hAt => by
       obtain ⟨v, g2, e1, e2, e3, e4, e5, e6⟩ := S.ex
       simp only [if_true] at e2 e4 e5
       refine e5 ρ a w w0 _ Q hlook R fun ρ' x w' l1 l2 l3 => ?_
       rw [← e4] at l3
       refine ih _ _ w' ρ' (by simpa using hsz) hlf' hc' (hszx x) (hdfx x) (hE.trans (by rw [← hfl]; exact l1)) (put1 hd hs hc ha I hi2 hni hr hl l1.1 fun q hq => by rw [e1 q hq]; exact l2) (hAt ρ' w' l3)
     by_cases hli : lo i
     · have hci : c ≤ i := Nat.le_of_not_lt fun h => hni ((c2 i hiN hli).2 h)
       have hno : ∀ k, c ≤ k → k < i → ¬ lo k := fun k k1 k2 hk => by
         have := (c2 k (by omega) hk).1 (reach k (hch k i hk hli k2 hiN))
         omega
       have e := same i c hci (by omega) hno
       refine step (Hs i) (Hs (i + 1)) (hlo i o hli hi2) (flo i (by omega)) (by rw [e]; exact c3) fun ρ' w' R => ⟨i + 1, by omega, fun k k1 k2 => ?_, R⟩
       rw [hl, c2 k k1 k2]
       constructor
       · rintro (h | h) <;> omega
       · intro h
         by_cases e2 : k = i
         · exact .inr e2
         · exact .inl (Nat.lt_of_not_le fun h3 => hno k h3 (by omega) k2)
     · have hc2 : ∀ k, k < ops.size → lo k → (InL (listed.setIfInBounds i true) k ↔ k < c) := fun k k1 k2 => by
         rw [hl, c2 k k1 k2]
         exact ⟨fun h => h.resolve_right fun e => hli (e ▸ k2), .inl⟩
       obtain ⟨⟨g, g', S⟩, hh⟩ := hqt i o hli hi2
       rcases hh with hst | hh
       · obtain ⟨v, g2, e1, e2, e3, e4, e5, e6⟩ := S.ex
         exact e6 hst ρ a w _ Q hlook fun x hx => ih _ _ w ρ (by simpa using hsz) hlf' hc' (hszx x) (hdfx x) hE (put1 hd hs hc ha I hi2 hni hr hl (Emb.le_refl ρ) fun q hq => by rw [e1 q hq]; exact hx) ⟨c, c1, hc2, c3⟩
       · refine step (Hs c) (Hs c) (hh c c1 (fun k k1 k2 => ?_) fun k k1 k2 k3 => ?_) (flo c c1) c3 fun ρ' w' R => ⟨c, c1, hc2, R⟩
         · have hkl := reach k k2
           have hkN : k < ops.size := by
             have := k2.lt hup; omega
           exact (c2 k hkN k1).1 hkl
         · have hkl := (c2 k (by omega) k1).2 k2
           exact hni (k3.inL hc fun o' ho e he hb => hc k o' ho hkl e he hb)
theorem chain_ok (hm : P.follows .mixedOrders = true) (hd : drawsOk ops.toList = true) {Hs : Nat → H} {lo : Nat → Prop} (hs : Frm nt ops Ts) (hch : ∀ i j, lo i → lo j → i < j → j < ops.size → Reach ops.toList j i)
   (hlo : ∀ (i : Nat) o, lo i → ops[i]? = some o → StepOk P nt ops i o true (Ts i) (Ts (i + 1)) (Hs i) (Hs (i + 1))) (hsm : ∀ i, i < ops.size → ¬ lo i → Hs (i + 1) = Hs i)
   (hqt : ∀ (i : Nat) o, ¬ lo i → ops[i]? = some o → (∃ g g', StepOk P nt ops i o true (Ts i) (Ts (i + 1)) g g') ∧ (still P o.op = true ∨ ∀ c, c ≤ ops.size → (∀ k, lo k → Reach ops.toList i k → k < c) → (∀ k, lo k → k < c → ¬ Reach ops.toList k i) → StepOk P nt ops i o true (Ts i) (Ts (i + 1)) (Hs c) (Hs c))) :
   KeepF (Hs 0) (Hs ops.size) ∧ B.val (Hs 0).next ≤ B.val (Hs ops.size).next ∧ ∀ ρ a w w0 (id : Nat) (Q : Exit → Act → World → Prop), ARel ρ nt (Ts 0) a → HRel ρ (Hs 0) w w0 → (∀ ρ' a' w', Ext (Hs 0).floor ρ ρ' → ARel ρ' nt (Ts ops.size) a' → HRel ρ' (Hs ops.size) w' w0 → Q .normal a' w') → (Code.region id ops true).wp P Q a w := by
 have kk : ∀ c, c ≤ ops.size → KeepF (Hs 0) (Hs c) ∧ B.val (Hs 0).next ≤ B.val (Hs c).next := by
   intro c
   induction c with
   | zero => intro _; exact ⟨KeepF.refl _, Nat.le_refl _⟩
   | succ c ih =>
     intro hc
     obtain ⟨k1, k2⟩ := ih (by omega)
     by_cases hl : lo c
     · obtain ⟨v, g, _, e2, e3, e4, _⟩ := (hlo c _ hl (Array.getElem?_eq_getElem (show c < ops.size by omega))).ex
       simp only [if_true] at e2 e4
       rw [← e4] at e2 e3
       exact ⟨KeepF.trans k1 k2 e2, Nat.le_trans k2 e3⟩
     · rw [hsm c (by omega) hl]; exact ⟨k1, k2⟩
 obtain ⟨k1, k2⟩ := kk ops.size (Nat.le_refl _)
 refine ⟨k1, k2, fun ρ a w w0 id Q A R hQ => wp_region_any hm ?_⟩
 have hno : ∀ j, ¬ InL (Array.replicate ops.size false) j := by
   intro j; unfold InL
   by_cases hj : j < ops.size <;> simp [hj]
 refine any2 hd (Hs := Hs) (lo := lo) hs hch hlo hsm hqt (ρ0 := ρ) (w0 := w0) (fun ρ' a' w' q1 q2 q3 => hQ ρ' a' w' q1 q2 q3) ops.size _ a _ ρ (by simp) (by unfold left; exact Nat.le_trans (List.length_filter_le _ _) (by simp)) ?_ A.size A.defers (Ext.refl _ _) ?_ ⟨0, Nat.zero_le _, fun k _ _ => ⟨fun h => absurd h (hno k), fun h => absurd h (Nat.not_lt_zero _)⟩, R.dr _⟩
 · intro j o hj hin; exact absurd hin (hno j)
 · intro q h5
   exact ⟨0, Nat.zero_le _, .inl rfl, fun j o hj hdj => ⟨fun h => by omega, fun hin => absurd hin (hno j)⟩, A.slot q h5⟩
end
section
variable {P : Program}
theorem cow_app {bars : Nat → Bool} {nt : Nat} {all : List Oper} {cop : Op → CR} : ∀ {X : List CO} {l : List Oper} {n : Nat} {Y : List CO}, compOpsWith bars P nt all cop n l = X ++ Y →
   ∃ lx ly, l = lx ++ ly ∧ compOpsWith bars P nt all cop n lx = X ∧ compOpsWith bars P nt all cop (n + lx.length) ly = Y := by
 intro X
 induction X with
 | nil => intro l n Y h; exact ⟨[], l, rfl, rfl, h⟩
 | cons p X ih =>
   intro l n Y h
   match l, h with
   | [], h => cases h
   | o :: l, h =>
     have h1 := (List.cons.inj h).1
     obtain ⟨lx, ly, e1, e2, e3⟩ := ih (List.cons.inj h).2
     refine ⟨o :: lx, ly, by rw [e1]; rfl, by show _ :: compOpsWith bars P nt all cop (n + 1) lx = _; rw [e2, h1], ?_⟩
     rw [← e3, show n + (o :: lx).length = n + 1 + lx.length by simp; omega]
theorem cow_cons {bars : Nat → Bool} {nt : Nat} {all : List Oper} {cop : Op → CR} {l : List Oper} {n : Nat} {A : CO} {Y : List CO} (h : compOpsWith bars P nt all cop n l = A :: Y) :
   ∃ o l', l = o :: l' ∧ A = ⟨compG nt all o.guard, dOf nt o.dst, bars n, cop o.op⟩ ∧ compOpsWith bars P nt all cop (n + 1) l' = Y := by
 match l, h with
 | [], h => cases h
 | o :: l, h => exact ⟨o, l, rfl, (List.cons.inj h).1.symm, (List.cons.inj h).2⟩
theorem dual_ok (hm : P.follows .mixedOrders = true) {nt : Nat} {ops : Array Oper} {Ts : Nat → F} (hd : drawsOk ops.toList = true) {n p : Nat} (hnp : n < p) (hp : p < ops.size) {h h2 h3 : H} (hbar : barAt P ops.toList (befs ops.toList []) p = true)
   (hQ0 : ∀ (i : Nat) o, i < p → i ≠ n → ops[i]? = some o → StepOk P nt ops i o true (Ts i) (Ts (i + 1)) h h ∧ StepOk P nt ops i o true (Ts i) (Ts (i + 1)) h2 h2)
   (hR0 : ∀ (i : Nat) o, p < i → ops[i]? = some o → StepOk P nt ops i o true (Ts i) (Ts (i + 1)) h3 h3)
   (hA : ∀ o, ops[n]? = some o → StepOk P nt ops n o true (Ts n) (Ts (n + 1)) h h2) (hB : ∀ o, ops[p]? = some o → StepOk P nt ops p o true (Ts p) (Ts (p + 1)) h2 h3) :
   KeepF h h3 ∧ B.val h.next ≤ B.val h3.next ∧ ∀ ρ a w w0 (id : Nat) (Q : Exit → Act → World → Prop), ARel ρ nt (Ts 0) a → HRel ρ h w w0 → (∀ ρ' a' w', Ext h.floor ρ ρ' → ARel ρ' nt (Ts ops.size) a' → HRel ρ' h3 w' w0 → Q .normal a' w') → (Code.region id ops true).wp P Q a w := by
 have hup : edgesUp 0 ops.toList = true := by simp only [drawsOk, Bool.and_eq_true] at hd; exact hd.1
 have hbr : ∀ (j : Nat) o, j ≠ p → ops[j]? = some o → still P o.op = false → (j < p → Reach ops.toList p j) ∧ (p < j → Reach ops.toList j p) := fun j o hj ho hst => by
   rcases bar_ok hbar ((Array.getElem?_toList (xs := ops) (i := j)).trans ho) hst (Ne.symm hj) with h | h
   · have := h.lt hup; exact ⟨fun _ => by omega, fun _ => h⟩
   · have := h.lt hup; exact ⟨fun _ => h, fun _ => by omega⟩
 have ha : ops[n]? = some (ops[n]'(by omega)) := Array.getElem?_eq_getElem _
 let Hs : Nat → H := fun i => if i ≤ n then h else if i ≤ p then h2 else h3
 have V0 : ∀ i, i ≤ n → Hs i = h := fun i hi => if_pos hi
 have V1 : ∀ i, n < i → i ≤ p → Hs i = h2 := fun i h1 h3 => by
   show (if _ then _ else _) = _
   rw [if_neg (by omega), if_pos h3]
 have V2 : ∀ i, p < i → Hs i = h3 := fun i h1 => by
   show (if _ then _ else _) = _
   rw [if_neg (by omega), if_neg (by omega)]
 have hs : Frm nt ops Ts := fun i o ho => by
   have S : ∃ g g', StepOk P nt ops i o true (Ts i) (Ts (i + 1)) g g' := by
     by_cases e : i = n
     · subst e; exact ⟨_, _, hA o ho⟩
     · rcases Nat.lt_trichotomy i p with h1 | h1 | h1
       · exact ⟨_, _, (hQ0 i o h1 e ho).1⟩
       · subst h1; exact ⟨_, _, hB o ho⟩
       · exact ⟨_, _, hR0 i o h1 ho⟩
   obtain ⟨g, g', S⟩ := S
   exact ⟨S.dst, S.rest⟩
 have R := chain_ok (nt := nt) (ops := ops) (Ts := Ts) (Hs := Hs) (lo := fun k => k = p ∨ (k = n ∧ ∀ o, ops[k]? = some o → still P o.op = false)) hm hd hs
   (fun i j hi hj hij hjN => by
     rcases hi with rfl | ⟨rfl, hi⟩
     · rcases hj with rfl | ⟨rfl, _⟩ <;> omega
     · rcases hj with rfl | ⟨rfl, _⟩
       · exact (hbr _ _ (by omega) ha (hi _ ha)).1 hnp
       · omega)
   (fun i o hi ho => by
     rcases hi with rfl | ⟨rfl, _⟩
     · rw [V1 _ hnp (Nat.le_refl _), V2 _ (by omega)]; exact hB o ho
     · rw [V0 _ (Nat.le_refl _), V1 _ (by omega) (by omega)]; exact hA o ho)
   (fun i hi hl => by
     by_cases h1 : i = n
     · subst h1
       rw [V0 _ (Nat.le_refl _), V1 _ (by omega) (by omega)]
       cases hst : still P (ops[i]'(by omega)).op with
       | true => exact (hA _ ha).calm hst
       | false => exact absurd (.inr ⟨rfl, fun o ho => by rw [ha] at ho; cases ho; exact hst⟩) hl
     · by_cases h2 : i = p
       · exact absurd (.inl h2) hl
       · by_cases h3 : i < n
         · rw [V0 _ (by omega), V0 _ (by omega)]
         · by_cases h4 : i < p
           · rw [V1 _ (by omega) (by omega), V1 _ (by omega) (by omega)]
           · rw [V2 _ (by omega), V2 _ (by omega)])
   (fun i o hl ho => by
     have hiN : i < ops.size := (Array.getElem?_eq_some_iff.1 ho).1
     by_cases h1 : i = n
     · subst h1
       refine ⟨⟨_, _, hA o ho⟩, .inl ?_⟩
       cases hst : still P o.op with
       | true => rfl
       | false => exact absurd (.inr ⟨rfl, fun o' ho' => by rw [ho] at ho'; cases ho'; exact hst⟩) hl
     · have h2 : i ≠ p := fun e => hl (.inl e)
       cases hst : still P o.op with
       | true =>
         refine ⟨?_, .inl rfl⟩
         by_cases h4 : i < p
         · exact ⟨_, _, (hQ0 i o h4 h1 ho).1⟩
         · exact ⟨_, _, hR0 i o (by omega) ho⟩
       | false =>
         obtain ⟨r1, r2⟩ := hbr i o h2 ho hst
         by_cases h4 : i < p
         · obtain ⟨x1, x2⟩ := hQ0 i o h4 h1 ho
           refine ⟨⟨_, _, x1⟩, .inr fun c c1 c2 c3 => ?_⟩
           have hcp : c ≤ p := Nat.le_of_not_lt fun h => c3 p (.inl rfl) h (r1 h4)
           by_cases h5 : c ≤ n
           · rw [V0 _ h5]; exact x1
           · rw [V1 _ (by omega) hcp]; exact x2
         · have x1 := hR0 i o (by omega) ho
           refine ⟨⟨_, _, x1⟩, .inr fun c c1 c2 c3 => ?_⟩
           rw [V2 _ (c2 p (.inl rfl) (r2 (by omega)))]; exact x1)
 rw [V0 0 (Nat.zero_le _), V2 ops.size hp] at R
 exact R
theorem eqV1_ok {x y : V} (h : eqV1 x y = true) : x = y := by
 cases x with
 | b x =>
   obtain ⟨z, rfl, h⟩ := vB_ok (show vB y (fun y => eqBo x y) = true from h)
   cases x <;> cases z <;> first | rfl | cases h
 | i kd n =>
   obtain ⟨kd', n', rfl, h⟩ := vI_ok (show vI y (fun kd' n' => ifK (kdEq kd kd') fun _ => eqI n n') = true from h)
   obtain ⟨h1, h⟩ := ifK_ok h
   rw [eqI_eq] at h
   rw [kdEq_ok h1, eq_of_beq h]
 | s len n =>
   obtain ⟨len', n', rfl, h⟩ := vS_ok (show vS y (fun len' n' => ifK (Nat.beq len len') fun _ => Nat.beq n n') = true from h)
   obtain ⟨h1, h⟩ := ifK_ok h
   rw [Nat.eq_of_beq_eq_true h1, Nat.eq_of_beq_eq_true h]
 | p id g off fin =>
   obtain ⟨id', g', off', fin', rfl, h⟩ := vP_ok (show vP y (fun id' g' off' fin' => ifK (Nat.beq (B.val id) (B.val id')) fun _ => ifK (Nat.beq g g') fun _ => ifK (Nat.beq off off') fun _ => Nat.beq fin fin') = true from h)
   obtain ⟨h1, h⟩ := ifK_ok h
   obtain ⟨h2, h⟩ := ifK_ok h
   obtain ⟨h3, h⟩ := ifK_ok h
   rw [B.val_inj (Nat.eq_of_beq_eq_true h1), Nat.eq_of_beq_eq_true h2, Nat.eq_of_beq_eq_true h3, Nat.eq_of_beq_eq_true h]
 | p0 =>
   rcases vPZ_ok (show vPZ y (fun _ => true) (fun _ _ _ _ => false) = true from h) with ⟨rfl, h⟩ | ⟨_, _, _, _, rfl, h⟩
   · rfl
   · cases h
 | l0 =>
   rcases vL_ok (show vL y (fun _ => true) (fun _ _ _ _ _ _ => false) = true from h) with ⟨rfl, h⟩ | ⟨_, _, _, _, _, _, rfl, h⟩
   · rfl
   · cases h
 | l id g off len fin cap =>
   rcases vL_ok (show vL y (fun _ => false) (fun id' g' off' len' fin' cap' => ifK (Nat.beq (B.val id) (B.val id')) fun _ => ifK (Nat.beq g g') fun _ => ifK (Nat.beq off off') fun _ => ifK (Nat.beq len len') fun _ => ifK (Nat.beq fin fin') fun _ => eqO cap cap') = true from h) with ⟨rfl, h⟩ | ⟨id', g', off', len', fin', cap', rfl, h⟩
   · cases h
   · obtain ⟨h1, h⟩ := ifK_ok h
     obtain ⟨h2, h⟩ := ifK_ok h
     obtain ⟨h3, h⟩ := ifK_ok h
     obtain ⟨h4, h⟩ := ifK_ok h
     obtain ⟨h5, h⟩ := ifK_ok h
     have h6 : cap = cap' := by
       cases cap <;> cases cap' <;> first | rfl | cases h | exact congrArg some (Nat.eq_of_beq_eq_true h)
     rw [B.val_inj (Nat.eq_of_beq_eq_true h1), Nat.eq_of_beq_eq_true h2, Nat.eq_of_beq_eq_true h3, Nat.eq_of_beq_eq_true h4, Nat.eq_of_beq_eq_true h5, h6]
 | _ => exact Bool.noConfusion h
theorem eqVs_ok : ∀ {xs ys : List V}, eqVs xs ys = true → xs = ys
 | [], [], _ => rfl
 | [], _ :: _, h => Bool.noConfusion h
 | _ :: _, [], h => Bool.noConfusion h
 | x :: xs, y :: ys, h => by
   obtain ⟨h1, h2⟩ := ifK_ok (show ifK (eqV1 x y) (fun _ => eqVs xs ys) = true from h)
   rw [eqV1_ok h1, eqVs_ok h2]
theorem eqV_ok {x y : V} (h : eqV x y = true) : x = y := by
 cases x with
 | a cs =>
   obtain ⟨cs', rfl, h⟩ := vA_ok (show vA y (fun cs' => eqVs cs cs') = true from h)
   rw [eqVs_ok h]
 | _ => exact eqV1_ok h
theorem sameV {v1 v2 : V} {h1 h2 : H} (e : ∀ k : V → H → Bool, k v1 h1 = k v2 h2) : v2 = v1 ∧ h2 = h1 := by
 have := e fun t h => @decide (t = v1 ∧ h = h1) (Classical.propDecidable _)
 simp at this
 exact this
theorem sameF {t1 t2 : F} {h1 h2 : H} (e : ∀ k : F → H → Bool, k t1 h1 = k t2 h2) : t2 = t1 ∧ h2 = h1 := by
 have := e fun t h => @decide (t = t1 ∧ h = h1) (Classical.propDecidable _)
 simp at this
 exact this
theorem quiet_ok {o : Oper} (hq : quiet P o.op = true) {cf : CallF} (hcf : CfOk P cf) {t : F} {h : H} {v : V} {h' : H} (e : ∀ k', runK (compOp P o.op) cf t h k' = k' v h') : h' = h := by
 have base : still P o.op = true → h' = h := fun hs => by
   obtain ⟨v2, h2, r1, r2, r3, r4, r5⟩ := compOp_ok P o cf hcf t h _ (e fun _ _ => true)
   obtain ⟨_, rfl⟩ := sameV fun k => (e k).symm.trans (r1 k)
   exact (r5 hs).1
 cases ho : o.op with
 | load el x =>
   rw [ho] at e
   have e1 : ∀ k', runK (compLoad (tyAt P el) (compO x)) cf t h k' = k' v h' := e
   have key : ∀ (r : Run), (∃ s, r = doLoadA s (compO x)) ∨ r = doLoad (compO x) ∨ r = noRun → (∀ k', r cf t h k' = k' v h') → h' = h := by
     intro r hr e2
     rcases hr with ⟨s, rfl⟩ | rfl | rfl
     · have h1 := e2 fun _ _ => true
       simp only [doLoadA, oE_eq] at h1
       obtain ⟨id, g, off, fin, hv, h1⟩ := vP_ok h1
       obtain ⟨vs, n1, _⟩ := loadN_ok h1
       refine (sameV (v1 := .a vs) (v2 := v) (h1 := h) fun k => ?_).2
       rw [← e2 k]
       simp only [doLoadA, oE_eq, hv, vP_p, n1]
     · have h1 := e2 fun _ _ => true
       simp only [doLoad, oE_eq] at h1
       obtain ⟨id, g, off, fin, hv, h1⟩ := vP_ok h1
       obtain ⟨vs, n1, _⟩ := load1_ok h1
       refine (sameV (v1 := vs) (v2 := v) (h1 := h) fun k => ?_).2
       rw [← e2 k]
       simp only [doLoad, oE_eq, hv, vP_p, n1]
     · have h1 := e2 fun _ _ => true
       cases h1
   refine key _ ?_ e1
   unfold compLoad
   split
   · split
     · exact .inl ⟨_, rfl⟩
     · exact .inr (.inl rfl)
   · exact .inr (.inr rfl)
 | nilCheck x =>
   rw [ho] at e
   have e1 : ∀ k', doNilCheck (compO x) cf t h k' = k' v h' := e
   have h1 := e1 fun _ _ => true
   simp only [doNilCheck, oE_eq] at h1
   obtain ⟨id, g, off, fin, hv, h1⟩ := vP_ok h1
   refine (sameV (v1 := .p id g off fin) (v2 := v) (h1 := h) fun k => ?_).2
   rw [← e1 k]
   simp only [doNilCheck, oE_eq, hv, vP_p]
 | _ => exact base (by rw [ho] at hq ⊢; exact hq)
theorem opK_dr (o : CO) (cf : CallF) (ih : F → H → (F → H → Bool) → Bool) (t : F) (h : H) (k : F → H → Bool) : opK o cf ih t h k = drK (.mk o.guard o.dst true o.run) cf ih t h k := by
 obtain ⟨g, d, b, r⟩ := o
 show guardK g t (fun b => opGo b r d cf ih t h k) = guardK g t (fun b => drGo b true r d cf ih t h k)
 congr 1; funext b; cases b <;> rfl
section
variable {cf : CallF} {nt : Nat} {ops : Array Oper}
theorem op_step (hcf : CfOk P cf) {i : Nat} {o : Oper} (hi : ops[i]? = some o) {b : Bool} {t : F} {h : H} {ih : F → H → (F → H → Bool) → Bool} {k : F → H → Bool} (hk : opK ⟨compG nt ops.toList o.guard, dOf nt o.dst, b, compOp P o.op⟩ cf ih t h k = true) :
   ∃ t' h', (∀ ih' k', opK ⟨compG nt ops.toList o.guard, dOf nt o.dst, b, compOp P o.op⟩ cf ih' t h k' = ih' t' h' k') ∧ StepOk P nt ops i o true t t' h h' ∧ (quiet P o.op = true → h' = h) := by
 rw [opK_dr] at hk
 have hk' : drK ⟨compG nt ops.toList o.guard, dOf nt o.dst, true, compOp P o.op⟩ cf ih t h k = true := hk
 have e : ∀ ih' k', drK ⟨compG nt ops.toList o.guard, dOf nt o.dst, true, compOp P o.op⟩ cf ih' t h k' = guardK (compG nt ops.toList o.guard) t fun b => drGo b true (compOp P o.op) (dOf nt o.dst) cf ih' t h k' := fun _ _ => rfl
 rw [e] at hk'
 obtain ⟨b2, g1, g2⟩ := guard_ok hk'
 rw [g1] at hk'
 have fin : ∀ t' h', (∀ ih' k', drGo b2 true (compOp P o.op) (dOf nt o.dst) cf ih' t h k' = ih' t' h' k') → (quiet P o.op = true → h' = h) → ∃ t' h', (∀ ih' k', opK ⟨compG nt ops.toList o.guard, dOf nt o.dst, b, compOp P o.op⟩ cf ih' t h k' = ih' t' h' k') ∧ StepOk P nt ops i o true t t' h h' ∧ (quiet P o.op = true → h' = h) := fun t' h' q1 q2 => by
   have q3 : ∀ ih' k', drK ⟨compG nt ops.toList o.guard, dOf nt o.dst, true, compOp P o.op⟩ cf ih' t h k' = ih' t' h' k' := fun ih' k' => by rw [e, g1, q1]
   obtain ⟨t2, h2, a1, a2⟩ := dr_step hcf hi (bar := true) (ih := fun t h k => k t h) (k := fun _ _ => true) (q3 _ _)
   obtain ⟨rfl, rfl⟩ := sameF fun k => (q3 (fun t h k => k t h) k).symm.trans (a1 k)
   exact ⟨_, _, fun ih' k' => by rw [opK_dr]; exact q3 ih' k', a2, q2⟩
 cases b2 with
 | false =>
   have hk2 : putD (dOf nt o.dst) (.tu []) t (fun t => ih t h k) = true := hk'
   obtain ⟨t', p1, _⟩ := putD_ok hk2
   exact fin t' h (fun ih' k' => p1 fun t => ih' t h k') fun _ => rfl
 | true =>
   have hk2 : runK (compOp P o.op) cf t h (fun v h => putD (dOf nt o.dst) v t fun t => ih t h k) = true := hk'
   obtain ⟨v, h', r1, r2, r3, r4, r5⟩ := compOp_ok P o cf hcf t h _ hk2
   rw [r1] at hk2
   obtain ⟨t', p1, _⟩ := putD_ok hk2
   exact fin t' h' (fun ih' k' => (r1 fun v h => putD (dOf nt o.dst) v t fun t => ih' t h k').trans (p1 fun t => ih' t h' k')) fun hq => quiet_ok hq hcf r1
theorem lock_step (hcf : CfOk P cf) {i : Nat} {o : Oper} (hi : ops[i]? = some o) (hq : quiet P o.op = true) {b : Bool} {t : F} {h h2 : H} {ih : F → H → H → (F → Bool) → Bool} {k : F → Bool} (hk : lockK ⟨compG nt ops.toList o.guard, dOf nt o.dst, b, compOp P o.op⟩ cf ih t h h2 k = true) :
   ∃ t', (∀ ih' k', lockK ⟨compG nt ops.toList o.guard, dOf nt o.dst, b, compOp P o.op⟩ cf ih' t h h2 k' = ih' t' h h2 k') ∧ (∀ ih' k', opK ⟨compG nt ops.toList o.guard, dOf nt o.dst, b, compOp P o.op⟩ cf ih' t h k' = ih' t' h k') ∧
     StepOk P nt ops i o true t t' h h ∧ StepOk P nt ops i o true t t' h2 h2 := by
 have e : ∀ ih' k', lockK ⟨compG nt ops.toList o.guard, dOf nt o.dst, b, compOp P o.op⟩ cf ih' t h h2 k' = guardK (compG nt ops.toList o.guard) t fun b => lockGo b (compOp P o.op) (dOf nt o.dst) cf ih' t h h2 k' := fun _ _ => rfl
 have eo : ∀ (g : H) ih' k', opK ⟨compG nt ops.toList o.guard, dOf nt o.dst, b, compOp P o.op⟩ cf ih' t g k' = guardK (compG nt ops.toList o.guard) t fun b => opGo b (compOp P o.op) (dOf nt o.dst) cf ih' t g k' := fun _ _ _ => rfl
 rw [e] at hk
 obtain ⟨b2, g1, g2⟩ := guard_ok hk
 rw [g1] at hk
 have one : ∀ (g : H) t', (∀ ih' k', opGo b2 (compOp P o.op) (dOf nt o.dst) cf ih' t g k' = ih' t' g k') → (∀ ih' k', opK ⟨compG nt ops.toList o.guard, dOf nt o.dst, b, compOp P o.op⟩ cf ih' t g k' = ih' t' g k') ∧ StepOk P nt ops i o true t t' g g := fun g t' q => by
   have q3 : ∀ ih' k', opK ⟨compG nt ops.toList o.guard, dOf nt o.dst, b, compOp P o.op⟩ cf ih' t g k' = ih' t' g k' := fun ih' k' => by rw [eo, g1, q]
   obtain ⟨t2, h3, a1, a2, a3⟩ := op_step hcf hi (ih := fun t h k => k t h) (k := fun _ _ => true) (q3 _ _)
   obtain ⟨rfl, rfl⟩ := sameF fun k => (q3 (fun t h k => k t h) k).symm.trans (a1 (fun t h k => k t h) k)
   exact ⟨q3, a2⟩
 cases b2 with
 | false =>
   have hk2 : putD (dOf nt o.dst) (.tu []) t (fun t => ih t h h2 k) = true := hk
   obtain ⟨t', p1, _⟩ := putD_ok hk2
   have q : ∀ (g : H) ih' k', opGo false (compOp P o.op) (dOf nt o.dst) cf ih' t g k' = ih' t' g k' := fun g ih' k' => p1 fun t => ih' t g k'
   obtain ⟨x1, x2⟩ := one h t' (q h)
   obtain ⟨y1, y2⟩ := one h2 t' (q h2)
   exact ⟨t', fun ih' k' => by rw [e, g1]; exact p1 fun t => ih' t h h2 k', x1, x2, y2⟩
 | true =>
   have hk2 : runK (compOp P o.op) cf t h (fun v _ => runK (compOp P o.op) cf t h2 fun v' _ => ifK (eqV v v') fun _ => putD (dOf nt o.dst) v t fun t => ih t h h2 k) = true := hk
   obtain ⟨v, h', r1, r2, r3, r4, r5⟩ := compOp_ok P o cf hcf t h _ hk2
   obtain rfl := quiet_ok hq hcf r1
   rw [r1] at hk2
   obtain ⟨v', h2', s1, s2, s3, s4, s5⟩ := compOp_ok P o cf hcf t h2 _ hk2
   obtain rfl := quiet_ok hq hcf s1
   rw [s1] at hk2
   obtain ⟨hv, hk2⟩ := ifK_ok hk2
   obtain ⟨t', p1, _⟩ := putD_ok hk2
   obtain rfl := eqV_ok hv
   obtain ⟨x1, x2⟩ := one h' t' fun ih' k' => (r1 _).trans (p1 fun t => ih' t h' k')
   obtain ⟨y1, y2⟩ := one h2' t' fun ih' k' => (s1 _).trans (p1 fun t => ih' t h2' k')
   refine ⟨t', fun ih' k' => ?_, x1, x2, y2⟩
   rw [e, g1]
   show runK (compOp P o.op) cf t h' (fun v _ => runK (compOp P o.op) cf t h2' fun v' _ => ifK (eqV v v') fun _ => putD (dOf nt o.dst) v t fun t => ih' t h' h2' k') = _
   rw [r1, s1, hv, ifK_true]
   exact p1 fun t => ih' t h' h2' k'
theorem ch_trace (hcf : CfOk P cf) (bars : Nat → Bool) : ∀ (l : List Oper) (n : Nat), ops.toList.drop n = l → ∀ (t : F) (h : H) (k : List (F × H) → F → H → Bool),
   chRun cf (compOpsWith bars P nt ops.toList (compOp P) n l) t h k = true →
   ∃ (Ts : Nat → F) (Hs : Nat → H) (L : List (F × H)), Ts n = t ∧ Hs n = h ∧ (∀ k', chRun cf (compOpsWith bars P nt ops.toList (compOp P) n l) t h k' = k' L (Ts (n + l.length)) (Hs (n + l.length))) ∧ (∀ m, m < l.length → L[m]? = some (Ts (n + m + 1), Hs (n + m + 1))) ∧ L.length = l.length ∧
     ∀ (i : Nat) o, n ≤ i → ops[i]? = some o → StepOk P nt ops i o true (Ts i) (Ts (i + 1)) (Hs i) (Hs (i + 1)) ∧ (quiet P o.op = true → Hs (i + 1) = Hs i) ∧ ∀ b ih' k', opK ⟨compG nt ops.toList o.guard, dOf nt o.dst, b, compOp P o.op⟩ cf ih' (Ts i) (Hs i) k' = ih' (Ts (i + 1)) (Hs (i + 1)) k' := by
 intro l
 induction l with
 | nil =>
   intro n hl t h k hk
   refine ⟨fun _ => t, fun _ => h, [], rfl, rfl, fun _ => rfl, fun m hm => by simp at hm, rfl, fun i o h1 h2 => ?_⟩
   have h3 : i < ops.size := (Array.getElem?_eq_some_iff.1 h2).1
   have := congrArg List.length hl
   simp at this; omega
 | cons o l ih =>
   intro n hl t h k hk
   have hn : ops[n]? = some o := by
     have : ops.toList[n]? = some o := by
       have := congrArg (fun l => l[0]?) hl
       simpa using this
     simpa using this
   have e : ∀ k', chRun cf (compOpsWith bars P nt ops.toList (compOp P) n (o :: l)) t h k' = opK ⟨compG nt ops.toList o.guard, dOf nt o.dst, bars n, compOp P o.op⟩ cf (fun t1 h1 _ => chRun cf (compOpsWith bars P nt ops.toList (compOp P) (n + 1) l) t1 h1 fun l t2 h2 => k' ((t1, h1) :: l) t2 h2) t h fun _ _ => true := fun _ => rfl
   rw [e] at hk
   obtain ⟨t1, h1, a1, a2, a3⟩ := op_step hcf hn hk
   rw [a1] at hk
   have hl' : ops.toList.drop (n + 1) = l := by rw [← List.drop_drop, hl]; rfl
   obtain ⟨Ts, Hs, L, b1, b2, b3, b4, b5, b6⟩ := ih (n + 1) hl' t1 h1 _ hk
   have e1 : n + (o :: l).length = n + 1 + l.length := by simp; omega
   have e2 : ∀ m, n < m → ¬ m = n := fun m hm => by omega
   refine ⟨fun i => if i = n then t else Ts i, fun i => if i = n then h else Hs i, (t1, h1) :: L, by simp, by simp, fun k' => ?_, fun m hm => ?_, by simp [b5], fun i oi h1' hi => ?_⟩
   · rw [e1]; simp only [e2 _ (show n < n + 1 + l.length by omega), if_false]; rw [e, a1, b3]
   · cases m with
     | zero => simp only [Nat.add_zero, e2 _ (Nat.lt_succ_self n), if_false]; rw [b1, b2]; rfl
     | succ m =>
       simp only [e2 _ (show n < n + (m + 1) + 1 by omega), if_false]
       rw [List.getElem?_cons_succ, b4 m (by simpa using hm), show n + (m + 1) + 1 = n + 1 + m + 1 by omega]
   · by_cases hin : i = n
     · subst hin
       rw [hn] at hi
       cases hi
       simp only [if_true, e2 _ (Nat.lt_succ_self i), if_false, b1, b2]
       refine ⟨a2, a3, fun b ih' k' => ?_⟩
       rw [opK_dr]
       have := a1 ih' k'
       rw [opK_dr] at this
       exact this
     · simp only [hin, if_false, e2 _ (show n < i + 1 by omega)]
       exact b6 i oi (by omega) hi
theorem chJs_ok (hcf : CfOk P cf) {i : Nat} {o : Oper} (hi : ops[i]? = some o) (hq : quiet P o.op = true) {b : Bool} {l : List (F × H)} {ti : F} {h : H} : ∀ {js : List Nat} {k : Unit → Bool},
   chJs ⟨compG nt ops.toList o.guard, dOf nt o.dst, b, compOp P o.op⟩ cf l ti h js k = true →
   (∀ k', chJs ⟨compG nt ops.toList o.guard, dOf nt o.dst, b, compOp P o.op⟩ cf l ti h js k' = k' ()) ∧ ∀ j ∈ js, ∃ tj hj t', l[j]? = some (tj, hj) ∧ StepOk P nt ops i o true ti t' hj hj ∧ ∀ ih' k', opK ⟨compG nt ops.toList o.guard, dOf nt o.dst, b, compOp P o.op⟩ cf ih' ti h k' = ih' t' h k'
 | [], k, hk => ⟨fun _ => rfl, fun j hj => by cases hj⟩
 | j :: js, k, hk => by
   have e : ∀ k', chJs ⟨compG nt ops.toList o.guard, dOf nt o.dst, b, compOp P o.op⟩ cf l ti h (j :: js) k' = optK l[j]? (fun th => Prod.rec (fun _ hj => lockK ⟨compG nt ops.toList o.guard, dOf nt o.dst, b, compOp P o.op⟩ cf (fun t _ _ k => k t) ti h hj fun _ => chJs ⟨compG nt ops.toList o.guard, dOf nt o.dst, b, compOp P o.op⟩ cf l ti h js k') th) := fun _ => rfl
   rw [e] at hk
   obtain ⟨⟨tj, hj⟩, h1, hk⟩ := optK_ok hk
   have hk : lockK ⟨compG nt ops.toList o.guard, dOf nt o.dst, b, compOp P o.op⟩ cf (fun t _ _ k => k t) ti h hj (fun _ => chJs ⟨compG nt ops.toList o.guard, dOf nt o.dst, b, compOp P o.op⟩ cf l ti h js k) = true := hk
   obtain ⟨t', a1, a2, a3, a4⟩ := lock_step hcf hi hq hk
   rw [a1] at hk
   obtain ⟨b1, b2⟩ := chJs_ok hcf hi hq hk
   refine ⟨fun k' => ?_, fun q hq' => ?_⟩
   · rw [e, h1]
     show lockK ⟨compG nt ops.toList o.guard, dOf nt o.dst, b, compOp P o.op⟩ cf (fun t _ _ k => k t) ti h hj (fun _ => chJs ⟨compG nt ops.toList o.guard, dOf nt o.dst, b, compOp P o.op⟩ cf l ti h js k') = _
     rw [a1, b1]
   · rcases List.mem_cons.1 hq' with rfl | hq'
     · exact ⟨tj, hj, t', h1, a4, a2⟩
     · exact b2 q hq'
theorem cow_get {bars : Nat → Bool} {all : List Oper} {cop : Op → CR} : ∀ {l : List Oper} {n i : Nat} {o : Oper}, l[i]? = some o → (compOpsWith bars P nt all cop n l)[i]? = some ⟨compG nt all o.guard, dOf nt o.dst, bars (n + i), cop o.op⟩
 | [], _, _, _, h => by simp at h
 | x :: l, n, 0, o, h => by
   obtain rfl : x = o := by simpa using h
   rfl
 | x :: l, n, i + 1, o, h => by
   have := cow_get (bars := bars) (all := all) (cop := cop) (l := l) (n := n + 1) (i := i) (o := o) (by simpa using h)
   rw [show n + 1 + i = n + (i + 1) by omega] at this
   exact this
theorem chChk_ok (hcf : CfOk P cf) (bars : Nat → Bool) {l : List (F × H)} : ∀ {cs : List (Nat × List Nat)}, (∀ p ∈ cs, ∃ o, ops[p.1]? = some o ∧ quiet P o.op = true) → ∀ {k : Unit → Bool},
   chChk cf (compOpsWith bars P nt ops.toList (compOp P) 0 ops.toList) l cs k = true →
   (∀ k', chChk cf (compOpsWith bars P nt ops.toList (compOp P) 0 ops.toList) l cs k' = k' ()) ∧ ∀ p ∈ cs, ∀ o, ops[p.1]? = some o → ∃ ti h b, l[p.1]? = some (ti, h) ∧ ∀ j ∈ p.2, ∃ tj hj t', l[j]? = some (tj, hj) ∧ StepOk P nt ops p.1 o true ti t' hj hj ∧ ∀ ih' k', opK ⟨compG nt ops.toList o.guard, dOf nt o.dst, b, compOp P o.op⟩ cf ih' ti h k' = ih' t' h k'
 | [], _, k, hk => ⟨fun _ => rfl, fun p hp => by cases hp⟩
 | (i, js) :: cs, hcs, k, hk => by
   have e : ∀ k', chChk cf (compOpsWith bars P nt ops.toList (compOp P) 0 ops.toList) l ((i, js) :: cs) k' = optK (compOpsWith bars P nt ops.toList (compOp P) 0 ops.toList)[i]? fun o => optK l[i]? fun th => Prod.rec (fun ti hi => chJs o cf l ti hi js fun _ => chChk cf (compOpsWith bars P nt ops.toList (compOp P) 0 ops.toList) l cs k') th := fun _ => rfl
   obtain ⟨o, ho, hq⟩ := hcs (i, js) (by simp)
   have ho : ops[i]? = some o := ho
   have hg := cow_get (P := P) (nt := nt) (bars := bars) (all := ops.toList) (cop := compOp P) (n := 0) ((Array.getElem?_toList (xs := ops) (i := i)).trans ho)
   rw [Nat.zero_add] at hg
   rw [e, hg] at hk
   obtain ⟨⟨ti, hi⟩, h1, hk⟩ := optK_ok (show optK l[i]? (fun th => Prod.rec (fun ti hi => chJs ⟨compG nt ops.toList o.guard, dOf nt o.dst, bars i, compOp P o.op⟩ cf l ti hi js fun _ => chChk cf (compOpsWith bars P nt ops.toList (compOp P) 0 ops.toList) l cs k) th) = true from hk)
   have hk : chJs ⟨compG nt ops.toList o.guard, dOf nt o.dst, bars i, compOp P o.op⟩ cf l ti hi js (fun _ => chChk cf (compOpsWith bars P nt ops.toList (compOp P) 0 ops.toList) l cs k) = true := hk
   obtain ⟨a1, a2⟩ := chJs_ok hcf ho hq hk
   rw [a1] at hk
   obtain ⟨b1, b2⟩ := chChk_ok hcf bars (fun p hp => hcs p (List.mem_cons_of_mem _ hp)) hk
   refine ⟨fun k' => ?_, fun p hp => ?_⟩
   · rw [e, hg, h1]
     show chJs ⟨compG nt ops.toList o.guard, dOf nt o.dst, bars i, compOp P o.op⟩ cf l ti hi js (fun _ => chChk cf (compOpsWith bars P nt ops.toList (compOp P) 0 ops.toList) l cs k') = _
     rw [a1, b1]
   · rcases List.mem_cons.1 hp with rfl | hp
     · intro o' ho'
       have ho' : ops[i]? = some o' := ho'
       rw [ho] at ho'; cases ho'
       exact ⟨ti, hi, bars i, h1, a2⟩
     · exact b2 p hp
theorem louds_mem {k : Nat} : ∀ {l : List Oper} {n : Nat}, k ∈ loudsOf P n l ↔ ∃ i o, k = n + i ∧ l[i]? = some o ∧ quiet P o.op = false
 | [], n => by simp [loudsOf]
 | o :: l, n => by
   have ih := louds_mem (k := k) (l := l) (n := n + 1)
   have tail : (k ∈ loudsOf P (n + 1) l) ↔ ∃ i x, k = n + (i + 1) ∧ l[i]? = some x ∧ quiet P x.op = false := by
     rw [ih]
     constructor
     · rintro ⟨i, x, h1, h2, h3⟩; exact ⟨i, x, by omega, h2, h3⟩
     · rintro ⟨i, x, h1, h2, h3⟩; exact ⟨i, x, by omega, h2, h3⟩
   cases hq : quiet P o.op with
   | true =>
     have e : loudsOf P n (o :: l) = loudsOf P (n + 1) l := by simp only [loudsOf, hq]
     rw [e, tail]
     constructor
     · rintro ⟨i, x, h1, h2, h3⟩; exact ⟨i + 1, x, h1, by simpa using h2, h3⟩
     · rintro ⟨i, x, h1, h2, h3⟩
       cases i with
       | zero => simp at h2; rw [← h2, hq] at h3; cases h3
       | succ i => exact ⟨i, x, h1, by simpa using h2, h3⟩
   | false =>
     have e : loudsOf P n (o :: l) = n :: loudsOf P (n + 1) l := by simp only [loudsOf, hq]
     rw [e, List.mem_cons, tail]
     constructor
     · rintro (rfl | ⟨i, x, h1, h2, h3⟩)
       · exact ⟨0, o, by omega, rfl, hq⟩
       · exact ⟨i + 1, x, h1, by simpa using h2, h3⟩
     · rintro ⟨i, x, h1, h2, h3⟩
       cases i with
       | zero => exact .inl (by omega)
       | succ i => exact .inr ⟨i, x, h1, by simpa using h2, h3⟩
theorem chks_mem {bs louds : List Nat} {p : Nat × List Nat} : ∀ {l : List Oper} {n : Nat}, p ∈ chksOf P bs louds n l ↔ ∃ i o, p = (n + i, jsOf bs louds (n + i)) ∧ l[i]? = some o ∧ quiet P o.op = true ∧ still P o.op = false
 | [], n => by simp [chksOf]
 | o :: l, n => by
   have ih := chks_mem (bs := bs) (louds := louds) (p := p) (l := l) (n := n + 1)
   have tail : (p ∈ chksOf P bs louds (n + 1) l) ↔ ∃ i x, p = (n + (i + 1), jsOf bs louds (n + (i + 1))) ∧ l[i]? = some x ∧ quiet P x.op = true ∧ still P x.op = false := by
     rw [ih]
     constructor
     · rintro ⟨i, x, h1, h2⟩; exact ⟨i, x, by rw [h1, show n + 1 + i = n + (i + 1) by omega], h2⟩
     · rintro ⟨i, x, h1, h2⟩; exact ⟨i, x, by rw [h1, show n + (i + 1) = n + 1 + i by omega], h2⟩
   cases hq : (quiet P o.op && !still P o.op) with
   | false =>
     have e : chksOf P bs louds n (o :: l) = chksOf P bs louds (n + 1) l := by simp only [chksOf, hq]
     rw [e, tail]
     constructor
     · rintro ⟨i, x, h1, h2⟩; exact ⟨i + 1, x, h1, by simpa using h2⟩
     · rintro ⟨i, x, h1, h2, h3, h4⟩
       cases i with
       | zero => simp at h2; subst h2; rw [h3, h4] at hq; cases hq
       | succ i => exact ⟨i, x, h1, by simpa using h2, h3, h4⟩
   | true =>
     have e : chksOf P bs louds n (o :: l) = (n, jsOf bs louds n) :: chksOf P bs louds (n + 1) l := by simp only [chksOf, hq]
     rw [e, List.mem_cons, tail]
     simp only [Bool.and_eq_true, Bool.not_eq_true'] at hq
     constructor
     · rintro (rfl | ⟨i, x, h1, h2⟩)
       · exact ⟨0, o, rfl, rfl, hq.1, hq.2⟩
       · exact ⟨i + 1, x, h1, by simpa using h2⟩
     · rintro ⟨i, x, h1, h2⟩
       cases i with
       | zero => exact .inl h1
       | succ i => exact .inr ⟨i, x, h1, by simpa using h2⟩
theorem bef_reach {l : List Oper} {j i : Nat} (h : befBit (befs l []) j i = true) : Reach l j i := befs_ok l l [] rfl (fun j i h => by simp at h) j i h
theorem chain_of (hm : P.follows .mixedOrders = true) (hd : drawsOk ops.toList = true) {ld : List Nat} {cs : List (Nat × List Nat)} (ec : chainOf P (barAt P ops.toList (befs ops.toList [])) (befs ops.toList []) ops.toList = some (ld, cs)) {Ts : Nat → F} {Hs : Nat → H}
   (hst : ∀ (i : Nat) o, ops[i]? = some o → StepOk P nt ops i o true (Ts i) (Ts (i + 1)) (Hs i) (Hs (i + 1)) ∧ (quiet P o.op = true → Hs (i + 1) = Hs i))
   (hck : ∀ p ∈ cs, ∀ o, ops[p.1]? = some o → ∀ j ∈ p.2, StepOk P nt ops p.1 o true (Ts p.1) (Ts (p.1 + 1)) (Hs j) (Hs j)) :
   KeepF (Hs 0) (Hs ops.size) ∧ B.val (Hs 0).next ≤ B.val (Hs ops.size).next ∧ ∀ ρ a w w0 (id : Nat) (Q : Exit → Act → World → Prop), ARel ρ nt (Ts 0) a → HRel ρ (Hs 0) w w0 → (∀ ρ' a' w', Ext (Hs 0).floor ρ ρ' → ARel ρ' nt (Ts ops.size) a' → HRel ρ' (Hs ops.size) w' w0 → Q .normal a' w') → (Code.region id ops true).wp P Q a w := by
 unfold chainOf at ec
 split at ec
 case h_2 => cases ec
 rename_i hb
 cases ec
 simp only [Bool.and_eq_true] at hb
 have hoq : ∀ {i : Nat} {o}, ops[i]? = some o ↔ ops.toList[i]? = some o := fun {i o} => by rw [Array.getElem?_toList]
 have hld : ∀ {i : Nat} {o}, ops[i]? = some o → quiet P o.op = false → i ∈ loudsOf P 0 ops.toList := fun {i o} h1 h2 => louds_mem.2 ⟨i, o, by omega, hoq.1 h1, h2⟩
 exact chain_ok (nt := nt) (ops := ops) (Ts := Ts) (Hs := Hs) (lo := fun k => ∃ o, ops[k]? = some o ∧ quiet P o.op = false) hm hd
   (fun i o ho => ⟨(hst i o ho).1.dst, (hst i o ho).1.rest⟩)
   (fun i j ⟨oi, hi, qi⟩ ⟨oj, hj, qj⟩ hij _ => by
     have := hb.2
     unfold chainB at this
     have := (List.all_eq_true.1 ((List.all_eq_true.1 this) j (hld hj qj))) i (hld hi qi)
     rw [Bool.or_eq_true] at this
     rcases this with h | h
     · have := Nat.le_of_ble_eq_true h; omega
     · exact bef_reach h)
   (fun i o _ ho => (hst i o ho).1)
   (fun i hi hl => by
     have ho : ops[i]? = some (ops[i]'hi) := Array.getElem?_eq_getElem _
     refine (hst i _ ho).2 ?_
     cases hq : quiet P (ops[i]'hi).op with
     | true => rfl
     | false => exact absurd ⟨_, ho, hq⟩ hl)
   (fun i o hl ho => by
     have hq : quiet P o.op = true := by
       cases hq : quiet P o.op with
       | true => rfl
       | false => exact absurd ⟨_, ho, hq⟩ hl
     have S := (hst i o ho).1
     refine ⟨⟨_, _, S⟩, ?_⟩
     cases hst2 : still P o.op with
     | true => exact .inl rfl
     | false =>
       refine .inr fun c hc d1 d2 => ?_
       -- the last one that is ahead of c
       have hex : ∀ c, c ≤ ops.size → ∃ j, (j = 0 ∨ ∃ m, j = m + 1 ∧ m ∈ loudsOf P 0 ops.toList) ∧ j ≤ c ∧ Hs c = Hs j ∧ ∀ k, (∃ o, ops[k]? = some o ∧ quiet P o.op = false) → k < c → k < j := by
         intro c
         induction c with
         | zero => intro _; exact ⟨0, .inl rfl, Nat.le_refl _, rfl, fun k _ h => by omega⟩
         | succ c ih =>
           intro hc
           have hoc : ops[c]? = some (ops[c]'(by omega)) := Array.getElem?_eq_getElem _
           cases hqc : quiet P (ops[c]'(by omega)).op with
           | true =>
             obtain ⟨j, j1, j2, j3, j4⟩ := ih (by omega)
             refine ⟨j, j1, by omega, by rw [(hst c _ hoc).2 hqc, j3], fun k hk hkc => ?_⟩
             by_cases e : k = c
             · subst e
               obtain ⟨o', h1, h2⟩ := hk
               rw [hoc] at h1; cases h1
               rw [hqc] at h2; cases h2
             · exact j4 k hk (by omega)
           | false => exact ⟨c + 1, .inr ⟨c, rfl, hld hoc hqc⟩, Nat.le_refl _, rfl, fun k _ hk => hk⟩
       obtain ⟨j, j1, j2, j3, j4⟩ := hex c hc
       have hj : j ∈ jsOf (befs ops.toList []) (loudsOf P 0 ops.toList) i := by
         unfold jsOf
         rw [List.mem_filter]
         refine ⟨?_, ?_⟩
         · rcases j1 with rfl | ⟨m, rfl, hm⟩
           · simp
           · exact List.mem_cons_of_mem _ (List.mem_map_of_mem hm)
         · unfold jOk
           rw [List.all_eq_true]
           intro k hk
           obtain ⟨k', ok, rfl, hk1, hk2⟩ := louds_mem.1 hk
           rw [Nat.zero_add]
           have hlk : ∃ o, ops[k']? = some o ∧ quiet P o.op = false := ⟨ok, hoq.2 hk1, hk2⟩
           rw [Bool.and_eq_true]
           constructor
           · cases hbb : befBit (befs ops.toList []) i k' with
             | false => rfl
             | true =>
               have := j4 k' hlk (d1 k' hlk (bef_reach hbb))
               rw [Bool.not_true, Bool.false_or, Nat.ble_eq]; omega
           · cases hbb : befBit (befs ops.toList []) k' i with
             | false => rw [Bool.not_false, Bool.or_true]
             | true =>
               rw [Bool.not_true, Bool.or_false, Bool.not_eq_true']
               cases hle : Nat.ble (k' + 1) j with
               | false => rfl
               | true => exact absurd (bef_reach hbb) (d2 k' hlk (by have := Nat.le_of_ble_eq_true hle; omega))
       rw [j3]
       exact hck (i, jsOf (befs ops.toList []) (loudsOf P 0 ops.toList) i) (chks_mem.2 ⟨i, o, by rw [Nat.zero_add], hoq.1 ho, hq, hst2⟩) o ho j hj)
theorem drawsCh_ok (hm : P.follows .mixedOrders = true) (hcf : CfOk P cf) (hd : drawsOk ops.toList = true) {ld : List Nat} {cs : List (Nat × List Nat)} (ec : chainOf P (barAt P ops.toList (befs ops.toList [])) (befs ops.toList []) ops.toList = some (ld, cs)) (bars : Nat → Bool)
   {t : F} {h : H} {k : F → H → Bool} (hk : execCh cf (compOpsWith bars P nt ops.toList (compOp P) 0 ops.toList) cs t h k = true) :
   ∃ t' h', (∀ k', execCh cf (compOpsWith bars P nt ops.toList (compOp P) 0 ops.toList) cs t h k' = k' t' h') ∧ KeepF h h' ∧ B.val h.next ≤ B.val h'.next ∧
     ∀ ρ a w w0 (id : Nat) (Q : Exit → Act → World → Prop), ARel ρ nt t a → HRel ρ h w w0 → (∀ ρ' a' w', Ext h.floor ρ ρ' → ARel ρ' nt t' a' → HRel ρ' h' w' w0 → Q .normal a' w') → (Code.region id ops true).wp P Q a w := by
 have hoq : ∀ {i : Nat} {o}, ops[i]? = some o ↔ ops.toList[i]? = some o := fun {i o} => by rw [Array.getElem?_toList]
 have hcs : cs = chksOf P (befs ops.toList []) (loudsOf P 0 ops.toList) 0 ops.toList := by
   unfold chainOf at ec
   split at ec
   · cases ec; rfl
   · cases ec
 unfold execCh at hk
 obtain ⟨Ts, Hs, L, b1, b2, b3, b4, b5, b6⟩ := ch_trace hcf bars ops.toList 0 rfl t h _ hk
 rw [Nat.zero_add] at b3
 simp only [Nat.zero_add] at b4
 have hLL : ∀ {j : Nat} {tj hj}, ((t, h) :: L)[j]? = some (tj, hj) → tj = Ts j ∧ hj = Hs j := fun {j tj hj} e => by
   cases j with
   | zero => cases e; exact ⟨b1.symm, b2.symm⟩
   | succ m =>
     have hm : m < L.length := (List.getElem?_eq_some_iff.1 e).1 |> fun h => by simpa using h
     rw [List.getElem?_cons_succ, b4 m (by omega)] at e
     cases e; exact ⟨rfl, rfl⟩
 rw [b3] at hk
 obtain ⟨c1, c2⟩ := chChk_ok hcf bars (fun p hp => by
   rw [hcs] at hp
   obtain ⟨i, o, rfl, h2, h3, _⟩ := chks_mem.1 hp
   exact ⟨o, by rw [Nat.zero_add]; exact hoq.2 h2, h3⟩) hk
 have R := chain_of (nt := nt) hm hd ec (fun i o ho => ⟨(b6 i o (Nat.zero_le _) ho).1, (b6 i o (Nat.zero_le _) ho).2.1⟩) (fun p hp o ho j hj => by
   obtain ⟨ti, hi, b, e1, e2⟩ := c2 p hp o ho
   obtain ⟨rfl, rfl⟩ := hLL e1
   obtain ⟨tj, hj', t', g1, g2, g3⟩ := e2 j hj
   obtain ⟨rfl, rfl⟩ := hLL g1
   have e4 : t' = Ts (p.1 + 1) := by
     have := (b6 p.1 o (Nat.zero_le _) ho).2.2 b (fun t h k => k t h)
     exact (sameF fun k => (this k).symm.trans (g3 (fun t h k => k t h) k)).1
   rw [e4] at g2
   exact g2)
 have hlen : ops.toList.length = ops.size := by simp
 rw [hlen] at b3
 obtain ⟨R1, R2, R3⟩ := R
 rw [b2] at R1 R2 R3
 refine ⟨Ts ops.size, Hs ops.size, fun k' => ?_, R1, R2, fun ρ a w w0 id Q A R hQ => R3 ρ a w w0 id Q (by rw [b1]; exact A) R hQ⟩
 unfold execCh
 rw [b3, c1]
end
end
end Go.Ev

set_option linter.all false
namespace Go.Ev
open Go
theorem region_ok {tb : Nat → Bool} {P : Program} (htb : ∀ f, tb f = true → PureTrue P f) (hm : P.follows .mixedOrders = true) {n : Nat} (hE : ExOk tb P n) (nt id : Nat) (ops : Array Oper) (draw : Bool) (t : F) (h : H) (k : X → F → H → Bool)
   (hk : exec tb (compFn P) (n + 1) (comp P nt (.region id ops draw)) t h k = true) :
   ∃ x t' h', (∀ k', exec tb (compFn P) (n + 1) (comp P nt (.region id ops draw)) t h k' = k' x t' h') ∧ KeepF h h' ∧ B.val h.next ≤ B.val h'.next ∧ CodeSound P nt (.region id ops draw) t h x t' h' := by
 cases draw with
 | false =>
   have e : ∀ k', exec tb (compFn P) (n + 1) (comp P nt (.region id ops false)) t h k' = execOps (callF tb (exec tb (compFn P) n) (compFn P)) (compOpsWith (fun _ => true) P nt ops.toList (compOp P) 0 ops.toList) t h (regK k') := fun _ => rfl
   rw [e] at hk
   obtain ⟨t', h', a1, a2, a3, a4⟩ := ops_ok (cf_ok htb hE) (fun _ => true) ops.toList 0 (by simp) t h _ hk
   refine ⟨.normal, t', h', fun k' => by rw [e, a1]; rfl, a2, a3, fun ρ a w w0 Q A R hQ => ?_⟩
   refine wp_region ?_
   have := a4 ρ a w w0 Q A R hQ
   rwa [show List.range' 0 ops.toList.length = List.range ops.size by rw [List.range_eq_range']; simp] at this
 | true =>
   cases hd : drawsOk ops.toList with
   | false =>
     have e : comp P nt (.region id ops true) = .bad := by
       show compRegion P nt ops.toList true = .bad
       simp only [compRegion, hd]
     rw [e] at hk; exact Bool.noConfusion hk
   | true =>
     have e0 : comp P nt (.region id ops true) = .draws (compOpsWith (barAt P ops.toList (befs ops.toList [])) P nt ops.toList (compOp P) 0 ops.toList) (chainOf P (barAt P ops.toList (befs ops.toList [])) (befs ops.toList []) ops.toList) := by
       show compRegion P nt ops.toList true = _
       simp only [compRegion, hd]
     cases hc : chainOf P (barAt P ops.toList (befs ops.toList [])) (befs ops.toList []) ops.toList with
     | none =>
       have e : ∀ k', exec tb (compFn P) (n + 1) (comp P nt (.region id ops true)) t h k' = execDr (callF tb (exec tb (compFn P) n) (compFn P)) (compOpsWith (barAt P ops.toList (befs ops.toList [])) P nt ops.toList (compOp P) 0 ops.toList) t h (regK k') := by
         intro k'; rw [e0, hc]; rfl
       rw [e] at hk
       obtain ⟨t', h', a1, a2, a3, a4⟩ := draws_ok hm (cf_ok htb hE) hd hk
       exact ⟨.normal, t', h', fun k' => by rw [e, a1]; rfl, a2, a3, fun ρ a w w0 Q A R hQ => a4 ρ a w w0 id Q A R hQ⟩
     | some cs =>
       obtain ⟨ld, cs⟩ := cs
       have e : ∀ k', exec tb (compFn P) (n + 1) (comp P nt (.region id ops true)) t h k' = execCh (callF tb (exec tb (compFn P) n) (compFn P)) (compOpsWith (barAt P ops.toList (befs ops.toList [])) P nt ops.toList (compOp P) 0 ops.toList) cs t h (regK k') := by
         intro k'; rw [e0, hc]; rfl
       rw [e] at hk
       obtain ⟨t', h', a1, a2, a3, a4⟩ := drawsCh_ok hm (cf_ok htb hE) hd hc _ hk
       exact ⟨.normal, t', h', fun k' => by rw [e, a1]; rfl, a2, a3, fun ρ a w w0 Q A R hQ => a4 ρ a w w0 id Q A R hQ⟩
theorem exec_ok {tb : Nat → Bool} {P : Program} (htb : ∀ f, tb f = true → PureTrue P f) (hm : P.follows .mixedOrders = true) : ∀ n, ExOk tb P n ∧ LpOk tb P n := by
 intro n
 induction n with
 | zero => exact ⟨fun nt c t h k hk => Bool.noConfusion hk, fun nt c t h k hk => Bool.noConfusion hk⟩
 | succ n ih =>
   obtain ⟨hE, hL⟩ := ih
   have hLp : LpOk tb P (n + 1) := by
     intro nt c t h k hk
     have e : ∀ k', exec tb (compFn P) (n + 1) (.loop (comp P nt c)) t h k' = exec tb (compFn P) n (comp P nt c) t h (loopK (exec tb (compFn P) n) (comp P nt c) k') := fun _ => rfl
     rw [e] at hk
     obtain ⟨x, t1, h1, a1, a2, a3, a4⟩ := hE nt c t h _ hk
     rw [a1] at hk
     cases x with
     | normal =>
       have e2 : ∀ k', loopK (exec tb (compFn P) n) (comp P nt c) k' .normal t1 h1 = exec tb (compFn P) n (.loop (comp P nt c)) t1 h1 k' := fun _ => rfl
       rw [e2] at hk
       obtain ⟨x2, t2, h2, b1, b2, b3, b4⟩ := hL nt c t1 h1 k hk
       refine ⟨x2, t2, h2, fun k' => by rw [e, a1, e2, b1], KeepF.trans a2 a3 b2, Nat.le_trans a3 b3, fun ρ a w w0 Q A R hQ => ?_⟩
       refine loopArr_of (a4 ρ a w w0 _ A R fun ρ' a' w' l1 A' R' => ?_)
       exact b4 ρ' a' w' w0 Q A' R' fun ρ'' a'' w'' l2 A'' R'' => hQ ρ'' a'' w'' (l1.trans (by rw [← a2.1]; exact l2)) A'' R''
     | exit id =>
       refine ⟨.exit id, t1, h1, fun k' => by rw [e, a1]; rfl, a2, a3, fun ρ a w w0 Q A R hQ => ?_⟩
       exact loopArr_of (a4 ρ a w w0 _ A R fun ρ' a' w' l1 A' R' => hQ ρ' a' w' l1 A' R')
     | ret =>
       refine ⟨.ret, t1, h1, fun k' => by rw [e, a1]; rfl, a2, a3, fun ρ a w w0 Q A R hQ => ?_⟩
       exact loopArr_of (a4 ρ a w w0 _ A R fun ρ' a' w' l1 A' R' => hQ ρ' a' w' l1 A' R')
   refine ⟨fun nt c => ?_, hLp⟩
   induction c with
   | skip => intro t h k hk; exact ⟨.normal, t, h, fun _ => rfl, KeepF.refl h, Nat.le_refl _, fun ρ a w w0 Q A R hQ => wp_skip (hQ ρ a w (Ext.refl _ ρ) A R)⟩
   | label l => intro t h k hk; exact ⟨.normal, t, h, fun _ => rfl, KeepF.refl h, Nat.le_refl _, fun ρ a w w0 Q A R hQ => wp_label (hQ ρ a w (Ext.refl _ ρ) A R)⟩
   | exit id => intro t h k hk; exact ⟨.exit id, t, h, fun _ => rfl, KeepF.refl h, Nat.le_refl _, fun ρ a w w0 Q A R hQ => wp_exit (hQ ρ a w (Ext.refl _ ρ) A R)⟩
   | ret => intro t h k hk; exact ⟨.ret, t, h, fun _ => rfl, KeepF.refl h, Nat.le_refl _, fun ρ a w w0 Q A R hQ => wp_ret (hQ ρ a w (Ext.refl _ ρ) A R)⟩
   | goto l => intro t h k hk; exact Bool.noConfusion hk
   | refuse s => intro t h k hk; exact Bool.noConfusion hk
   | rangeFunc f ps x y ihx ihy => intro t h k hk; exact Bool.noConfusion hk
   | region id ops draw => intro t h k hk; exact region_ok htb hm hE nt id ops draw t h k hk
   | loop c ihc =>
     intro t h k hk
     obtain ⟨x, t', h', a1, a2, a3, a4⟩ := hLp nt c t h k hk
     exact ⟨x, t', h', a1, a2, a3, fun ρ a w w0 Q A R hQ => wp_loop_of (a4 ρ a w w0 Q A R hQ)⟩
   | scope c ihc =>
     intro t h k hk
     obtain ⟨x, t', h', a1, a2, a3, a4⟩ := ihc t h k hk
     refine ⟨x, t', h', a1, a2, a3, fun ρ a w w0 Q A R hQ => wp_scope_straight (a4 ρ a w w0 _ A R fun ρ' a' w' l1 A' R' => ?_)⟩
     have := hQ ρ' a' w' l1 A' R'
     cases x <;> exact this
   | seq c1 c2 ih1 ih2 =>
     intro t h k hk
     have e : ∀ k', exec tb (compFn P) (n + 1) (comp P nt (.seq c1 c2)) t h k' = exec tb (compFn P) n (comp P nt c1) t h (seqK (exec tb (compFn P) n) (comp P nt c2) k') := fun _ => rfl
     rw [e] at hk
     obtain ⟨x, t1, h1, a1, a2, a3, a4⟩ := hE nt c1 t h _ hk
     rw [a1] at hk
     cases x with
     | normal =>
       have e2 : ∀ k', seqK (exec tb (compFn P) n) (comp P nt c2) k' .normal t1 h1 = exec tb (compFn P) n (comp P nt c2) t1 h1 k' := fun _ => rfl
       rw [e2] at hk
       obtain ⟨x2, t2, h2, b1, b2, b3, b4⟩ := hE nt c2 t1 h1 k hk
       refine ⟨x2, t2, h2, fun k' => by rw [e, a1, e2, b1], KeepF.trans a2 a3 b2, Nat.le_trans a3 b3, fun ρ a w w0 Q A R hQ => ?_⟩
       refine wp_seq (a4 ρ a w w0 _ A R fun ρ' a' w' l1 A' R' => ?_)
       exact b4 ρ' a' w' w0 Q A' R' fun ρ'' a'' w'' l2 A'' R'' => hQ ρ'' a'' w'' (l1.trans (by rw [← a2.1]; exact l2)) A'' R''
     | exit id =>
       refine ⟨.exit id, t1, h1, fun k' => by rw [e, a1]; rfl, a2, a3, fun ρ a w w0 Q A R hQ => ?_⟩
       exact wp_seq (a4 ρ a w w0 _ A R fun ρ' a' w' l1 A' R' => hQ ρ' a' w' l1 A' R')
     | ret =>
       refine ⟨.ret, t1, h1, fun k' => by rw [e, a1]; rfl, a2, a3, fun ρ a w w0 Q A R hQ => ?_⟩
       exact wp_seq (a4 ρ a w w0 _ A R fun ρ' a' w' l1 A' R' => hQ ρ' a' w' l1 A' R')
   | cond c c1 c2 ih1 ih2 =>
     intro t h k hk
     have e : ∀ k', exec tb (compFn P) (n + 1) (comp P nt (.cond c c1 c2)) t h k' = oE (compO c) t fun c' => vB c' fun b => condK b (exec tb (compFn P) n) (comp P nt c1) (comp P nt c2) t h k' := fun _ => rfl
     rw [e, oE_eq] at hk
     obtain ⟨b, hb, hk⟩ := vB_ok hk
     have hev : ∀ ρ a, ARel ρ nt t a → a.eval c = .bool b := fun ρ a A => by
       have := opnd_rel A c
       rw [hb] at this; exact this
     cases b with
     | true =>
       have hk' : exec tb (compFn P) n (comp P nt c1) t h k = true := hk
       obtain ⟨x, t1, h1, a1, a2, a3, a4⟩ := hE nt c1 t h k hk'
       exact ⟨x, t1, h1, fun k' => by rw [e, oE_eq, hb, vB_b]; exact a1 k', a2, a3, fun ρ a w w0 Q A R hQ => wp_cond_true (hev ρ a A) (a4 ρ a w w0 Q A R hQ)⟩
     | false =>
       have hk' : exec tb (compFn P) n (comp P nt c2) t h k = true := hk
       obtain ⟨x, t1, h1, a1, a2, a3, a4⟩ := hE nt c2 t h k hk'
       exact ⟨x, t1, h1, fun k' => by rw [e, oE_eq, hb, vB_b]; exact a1 k', a2, a3, fun ρ a w w0 Q A R hQ => wp_cond_false (hev ρ a A) (a4 ρ a w w0 Q A R hQ)⟩
   | block id c ihc =>
     intro t h k hk
     have e : ∀ k', exec tb (compFn P) (n + 1) (comp P nt (.block id c)) t h k' = exec tb (compFn P) n (comp P nt c) t h (blockK id k') := fun _ => rfl
     rw [e] at hk
     obtain ⟨x, t1, h1, a1, a2, a3, a4⟩ := hE nt c t h _ hk
     cases x with
     | normal => exact ⟨.normal, t1, h1, fun k' => by rw [e, a1]; rfl, a2, a3, fun ρ a w w0 Q A R hQ => wp_block (a4 ρ a w w0 _ A R fun ρ' a' w' l1 A' R' => hQ ρ' a' w' l1 A' R')⟩
     | ret => exact ⟨.ret, t1, h1, fun k' => by rw [e, a1]; rfl, a2, a3, fun ρ a w w0 Q A R hQ => wp_block (a4 ρ a w w0 _ A R fun ρ' a' w' l1 A' R' => hQ ρ' a' w' l1 A' R')⟩
     | exit j =>
       have e2 : ∀ k', blockK id k' (.exit j) t1 h1 = blockB (Nat.beq j id) j k' t1 h1 := fun _ => rfl
       cases hj : Nat.beq j id with
       | true =>
         have hji : j = id := Nat.eq_of_beq_eq_true hj
         refine ⟨.normal, t1, h1, fun k' => by rw [e, a1, e2, hj]; rfl, a2, a3, fun ρ a w w0 Q A R hQ => wp_block (a4 ρ a w w0 _ A R fun ρ' a' w' l1 A' R' => ?_)⟩
         show (if j = id then Q .normal a' w' else Q (.exit j) a' w')
         rw [if_pos hji]; exact hQ ρ' a' w' l1 A' R'
       | false =>
         have hji : ¬ j = id := fun h => by rw [h] at hj; simp at hj
         refine ⟨.exit j, t1, h1, fun k' => by rw [e, a1, e2, hj]; rfl, a2, a3, fun ρ a w w0 Q A R hQ => wp_block (a4 ρ a w w0 _ A R fun ρ' a' w' l1 A' R' => ?_)⟩
         show (if j = id then Q .normal a' w' else Q (.exit j) a' w')
         rw [if_neg hji]; exact hQ ρ' a' w' l1 A' R'
def noEmb : Emb := fun _ _ => none
theorem zero_rel0 (w : World) : HRel noEmb H.zero w w :=
 ⟨fun _ _ _ h => (by cases h), fun _ _ _ h => (by cases h), fun _ _ _ _ _ _ h => (by cases h), Nat.le_refl _, fun _ _ => rfl, fun _ _ _ h => (by cases h), rfl, rfl, rfl, Nat.le_refl _, fun _ _ _ h => (by cases h), fun _ _ _ _ _ h => (by cases h)⟩
theorem HRel.same {ρ : Emb} {h : H} {w w0 : World} (R : HRel ρ h w w0) : Same w0 w := ⟨R.old, R.siz, R.tp, R.os, R.out⟩
theorem Same.below {w w' : World} (R : Same w w') : RowKit.Below w.heap.size w w' := ⟨R.2.2.2.1, R.2.2.1, R.2.2.2.2, R.2.1, R.1⟩
theorem runs {tb : Nat → Bool} {P : Program} (htb : ∀ f, tb f = true → PureTrue P f) (hm : P.follows .mixedOrders = true) {n : Nat} {f : FuncId} {vs : List V} (h : runFn tb P n f vs = true) {args : List Value} (ha : LRel noEmb vs args) (w : World) :
   (callFunc f args.toArray).run P w = .ok (.enter f args.toArray) w ∧ Calls P f args.toArray w fun e w' => e = .returned (.bool true) ∧ Same w w' := by
 obtain ⟨v, h', h1, h2, h3, h4⟩ := cf_ok htb (exec_ok htb hm n).1 f vs H.zero isTrue h
 have ht : isTrue v h' = true := by
   have := h1 isTrue
   rw [← this]; exact h
 obtain ⟨b, hb, hbt⟩ := vB_ok ht
 obtain ⟨c1, c2⟩ := h4 noEmb w w args ha (zero_rel0 w)
 refine ⟨c1, c2.mono fun e w' he => ?_⟩
 obtain ⟨x, rfl, ρ', _, x2, x3⟩ := he
 rw [hb] at x2
 have x2' : x = .bool b := x2
 rw [x2', hbt]
 exact ⟨rfl, x3.same⟩
theorem noTb_ok (P : Program) : ∀ f, noTb f = true → PureTrue P f := fun _ h => Bool.noConfusion h
theorem pure_of {tb : Nat → Bool} {P : Program} (htb : ∀ f, tb f = true → PureTrue P f) (hm : P.follows .mixedOrders = true) {n : Nat} {f : FuncId} (h : runFn tb P n f [] = true) : PureTrue P f :=
 fun w => runs htb hm h (args := []) trivial w
end Go.Ev

set_option linter.all false
namespace Go.Ev
open Go
section
open Go.RowKit Go.WideShapes Go.ChangeShapes
variable {H : Type} {enc : TypeId × Value → H} {P : Program}
theorem post_kept {f : Func} {s : ChangeSpec} {apart fresh handsOn again : Bool} {W W' : World} {args : Array Value} {v : Value} {ds gs : List (DataW H)} {before pa pv : List MemPlace} (hb : Below W.heap.size W W')
   (hW : DataW.Whole enc P f.params.toList s.vars apart W args.toList ds gs before)
   (hres : ∀ (b : Nat) (sp : Nat → Bool) (hd : Bool), DataW.TrodAll enc P W' b sp hd f.resultTypes.toList (v.resultList f.resultTypes.size) (s.fn H (ds ++ gs)).results [])
   (hargs : ∀ sp : Nat → Bool, (∀ p ∈ before, sp p.block = true) → DataW.TrodAll enc P W' 0 sp true f.params.toList args.toList (s.fn H (ds ++ gs)).args pa)
   (hvars : ∀ sp : Nat → Bool, (∀ p ∈ before, sp p.block = true) → DataW.TrodVars enc P W' sp s.vars (s.fn H (ds ++ gs)).vars pv)
   (hps : before = pa ++ pv)
   (hok : ∀ (j : Nat) (t : TypeId) (r : Value), f.resultTypes[j]? = some t → (v.resultList f.resultTypes.size)[j]? = some r → Value.okWide P W' .any 0 t r) :
   s.post enc P f apart fresh handsOn again W args v W' := by
 have hlt := fun p hp => hW.lt p hp
 have hin : ∀ p ∈ before, (fun b => decide (b < W.heap.size)) p.block = true := fun p hp => decide_eq_true (hlt p hp)
 have hkept := hb.frame (· ∈ before)
 refine ⟨ds, gs, before, [], pa, pv, hW, hres _ _ _, hargs _ hin, hvars _ hin, World.keptBut_mono (fun p hp => ⟨hp, ?_⟩) hkept, fun _ => ?_⟩
 · have := hps ▸ hp
   exact .inr (List.mem_append.1 this)
 · obtain ⟨_, _, _, _, _, hz, hn⟩ := hW
   refine ⟨hok, _, _, ([] ++ pa) ++ pv, ⟨[] ++ pa, pv, trodAll_append (hargs _ fun _ _ => rfl) (hres _ _ _), hvars _ fun _ _ => rfl, rfl, fun b off hp => ?_, fun ha => ?_⟩, fun p hp _ => ?_⟩
   · have hp' : MemPlace.cell b off ∈ before := by rw [hps]; simpa using hp
     rw [hb.frozen (hlt _ hp')]
     exact hz b off hp'
   · have hn' := hn ha
     rw [hps] at hn'
     simpa using hn'
   · rw [hps]; simpa using hp
end
end Go.Ev

set_option linter.all false
namespace Go.Ev
open Go
noncomputable def put (n : Nat) (v : V) (t : F) : F := Classical.choose (sPut_ok (slOf n) v t)
noncomputable def get (n : Nat) (t : F) : V := sGet (slOf n) t
theorem sPut_put (n : Nat) (v : V) (t : F) (k : F → Bool) : sPut (slOf n) v t k = k (put n v t) := (Classical.choose_spec (sPut_ok (slOf n) v t)).1 k
theorem get_put (n m : Nat) (v : V) (t : F) (hn : n < 512) (hm : m < 512) : get n (put m v t) = if n = m then v else get n t := by
 have h := Classical.choose_spec (sPut_ok (slOf m) v t)
 by_cases e : n = m
 · subst e; rw [if_pos rfl]; exact h.2.1
 · rw [if_neg e]; exact h.2.2 _ fun he => e (slOf_inj hn hm he)
noncomputable def slotsF : List V → Nat → F → F
 | [], _, t => t
 | v :: vs, n, t => slotsF vs (n + 1) (put n v t)
theorem slots_slotsF : ∀ (vs : List V) (n : Nat) (t : F) (k : F → Bool), slots vs n t k = k (slotsF vs n t)
 | [], _, _, _ => rfl
 | v :: vs, n, t, k => by
   have e : slots (v :: vs) n t k = sPut (slOf n) v t fun t => slots vs (n + 1) t k := rfl
   rw [e, sPut_put, slots_slotsF vs]; rfl
abbrev tm (n : Nat) : O := .t (slOf n)
theorem oV_t (n : Nat) (t : F) : oV (.t (slOf n)) t = get n t := rfl
theorem oV_c (v : V) (t : F) : oV (.c v) t = v := rfl
def Steps (P : Program) (nt : Nat) (c : Code) (t : F) (h : H) (x : X) (t' : F) (h' : H) : Prop := KeepF h h' ∧ B.val h.next ≤ B.val h'.next ∧ CodeSound P nt c t h x t' h'
def Ok (P : Program) (nt : Nat) (cc : CC) (t : F) (h : H) (K : X → F → H → Prop) : Prop := ∃ x t' h', (∀ c, comp P nt c = cc → Steps P nt c t h x t' h') ∧ K x t' h'
theorem Ok.mono {P : Program} {nt : Nat} {cc : CC} {t : F} {h : H} {K K' : X → F → H → Prop} (a : Ok P nt cc t h K) (hk : ∀ x t h, K x t h → K' x t h) : Ok P nt cc t h K' := by
 obtain ⟨x, t', h', a1, a2⟩ := a
 exact ⟨x, t', h', a1, hk _ _ _ a2⟩
theorem Steps.scope {P : Program} {nt : Nat} {c : Code} {t : F} {h : H} {x : X} {t' : F} {h' : H} (a : Steps P nt c t h x t' h') : Steps P nt (.scope c) t h x t' h' := by
 obtain ⟨a2, a3, a4⟩ := a
 refine ⟨a2, a3, fun ρ a w w0 Q A R hQ => wp_scope_straight (a4 ρ a w w0 _ A R fun ρ' a' w' l1 A' R' => ?_)⟩
 have := hQ ρ' a' w' l1 A' R'
 cases x <;> exact this
theorem Steps.trans {P : Program} {nt : Nat} {c1 c2 : Code} {t t1 t2 : F} {h h1 h2 : H} {x : X} (a : Steps P nt c1 t h .normal t1 h1) (b : Steps P nt c2 t1 h1 x t2 h2) : Steps P nt (.seq c1 c2) t h x t2 h2 := by
 obtain ⟨a2, a3, a4⟩ := a
 obtain ⟨b2, b3, b4⟩ := b
 refine ⟨KeepF.trans a2 a3 b2, Nat.le_trans a3 b3, fun ρ a w w0 Q A R hQ => ?_⟩
 refine wp_seq (a4 ρ a w w0 _ A R fun ρ' a' w' l1 A' R' => ?_)
 exact b4 ρ' a' w' w0 Q A' R' fun ρ'' a'' w'' l2 A'' R'' => hQ ρ'' a'' w'' (l1.trans (by rw [← a2.1]; exact l2)) A'' R''
theorem by_scopes {P : Program} {nt : Nat} {t : F} {h : H} {x : X} {t' : F} {h' : H} (cc : CC)
   (base : ∀ c, comp P nt c = cc → (∀ d, c ≠ .scope d) → Steps P nt c t h x t' h') : ∀ c, comp P nt c = cc → Steps P nt c t h x t' h' := by
 intro c
 induction c with
 | scope d ih => intro e; exact (ih e).scope
 | _ => intro e; exact base _ e (fun d hd => by cases hd)
section
variable {P : Program} {nt : Nat} {t : F} {h : H} {K : X → F → H → Prop}
theorem Ok.skip (k : K .normal t h) : Ok P nt .skip t h K := by
 refine ⟨.normal, t, h, by_scopes _ fun c e hs => ?_, k⟩
 have r : ∀ c, (c = .skip ∨ ∃ l, c = .label l) → Steps P nt c t h .normal t h := by
   rintro c (rfl | ⟨l, rfl⟩)
   · exact ⟨KeepF.refl h, Nat.le_refl _, fun ρ a w w0 Q A R hQ => wp_skip (hQ ρ a w (Ext.refl _ ρ) A R)⟩
   · exact ⟨KeepF.refl h, Nat.le_refl _, fun ρ a w w0 Q A R hQ => wp_label (hQ ρ a w (Ext.refl _ ρ) A R)⟩
 cases c with
 | skip => exact r _ (.inl rfl)
 | label l => exact r _ (.inr ⟨l, rfl⟩)
 | scope d => exact absurd rfl (hs d)
 | region id ops draw =>
   have e' : compRegion P nt ops.toList draw = .skip := e
   unfold compRegion at e'
   split at e'
   · cases e'
   · split at e' <;> cases e'
 | _ => cases e
theorem Ok.exit {id : Nat} (k : K (.exit id) t h) : Ok P nt (.exit id) t h K := by
 refine ⟨.exit id, t, h, by_scopes _ fun c e hs => ?_, k⟩
 cases c with
 | exit j => cases e; exact ⟨KeepF.refl h, Nat.le_refl _, fun ρ a w w0 Q A R hQ => wp_exit (hQ ρ a w (Ext.refl _ ρ) A R)⟩
 | scope d => exact absurd rfl (hs d)
 | region id ops draw =>
   have e' : compRegion P nt ops.toList draw = .exit _ := e
   unfold compRegion at e'
   split at e'
   · cases e'
   · split at e' <;> cases e'
 | _ => cases e
theorem Ok.ret (k : K .ret t h) : Ok P nt .ret t h K := by
 refine ⟨.ret, t, h, by_scopes _ fun c e hs => ?_, k⟩
 cases c with
 | ret => exact ⟨KeepF.refl h, Nat.le_refl _, fun ρ a w w0 Q A R hQ => wp_ret (hQ ρ a w (Ext.refl _ ρ) A R)⟩
 | scope d => exact absurd rfl (hs d)
 | region id ops draw =>
   have e' : compRegion P nt ops.toList draw = .ret := e
   unfold compRegion at e'
   split at e'
   · cases e'
   · split at e' <;> cases e'
 | _ => cases e
def Then (K' : F → H → Prop) (K : X → F → H → Prop) : X → F → H → Prop
 | .normal, t, h => K' t h
 | x, t, h => K x t h
theorem Ok.seq {a b : CC} (k : Ok P nt a t h (Then (fun t h => Ok P nt b t h K) K)) : Ok P nt (.seq a b) t h K := by
 obtain ⟨x, t1, h1, a1, a2⟩ := k
 have inv : ∀ c, comp P nt c = .seq a b → (∀ d, c ≠ .scope d) → ∃ c1 c2, c = .seq c1 c2 ∧ comp P nt c1 = a ∧ comp P nt c2 = b := by
   intro c e hs
   cases c with
   | seq c1 c2 => cases e; exact ⟨c1, c2, rfl, rfl, rfl⟩
   | scope d => exact absurd rfl (hs d)
   | region id ops draw =>
     have e' : compRegion P nt ops.toList draw = .seq a b := e
     unfold compRegion at e'
     split at e'
     · cases e'
     · split at e' <;> cases e'
   | _ => cases e
 cases x with
 | normal =>
   obtain ⟨x2, t2, h2, b1, b2⟩ := a2
   refine ⟨x2, t2, h2, by_scopes _ fun c e hs => ?_, b2⟩
   obtain ⟨c1, c2, rfl, e1, e2⟩ := inv c e hs
   exact (a1 c1 e1).trans (b1 c2 e2)
 | exit id =>
   refine ⟨_, t1, h1, by_scopes _ fun c e hs => ?_, a2⟩
   obtain ⟨c1, c2, rfl, e1, e2⟩ := inv c e hs
   obtain ⟨s1, s2, s3⟩ := a1 c1 e1
   exact ⟨s1, s2, fun ρ a w w0 Q A R hQ => wp_seq (s3 ρ a w w0 _ A R fun ρ' a' w' l1 A' R' => hQ ρ' a' w' l1 A' R')⟩
 | ret =>
   refine ⟨_, t1, h1, by_scopes _ fun c e hs => ?_, a2⟩
   obtain ⟨c1, c2, rfl, e1, e2⟩ := inv c e hs
   obtain ⟨s1, s2, s3⟩ := a1 c1 e1
   exact ⟨s1, s2, fun ρ a w w0 Q A R hQ => wp_seq (s3 ρ a w w0 _ A R fun ρ' a' w' l1 A' R' => hQ ρ' a' w' l1 A' R')⟩
theorem Ok.cond {o : O} {a b : CC} {q : Bool} (hq : oV o t = .b q) (ha : q = true → Ok P nt a t h K) (hb : q = false → Ok P nt b t h K) : Ok P nt (.cond o a b) t h K := by
 have inv : ∀ c, comp P nt c = .cond o a b → (∀ d, c ≠ .scope d) → ∃ x c1 c2, c = .cond x c1 c2 ∧ compO x = o ∧ comp P nt c1 = a ∧ comp P nt c2 = b := by
   intro c e hs
   cases c with
   | cond x c1 c2 => cases e; exact ⟨x, c1, c2, rfl, rfl, rfl, rfl⟩
   | scope d => exact absurd rfl (hs d)
   | region id ops draw =>
     have e' : compRegion P nt ops.toList draw = .cond o a b := e
     unfold compRegion at e'
     split at e'
     · cases e'
     · split at e' <;> cases e'
   | _ => cases e
 have hev : ∀ x, compO x = o → ∀ ρ a, ARel ρ nt t a → a.eval x = .bool q := fun x hx ρ a A => by
   have := opnd_rel A x
   rw [hx, hq] at this; exact this
 cases q with
 | true =>
   obtain ⟨x, t1, h1, a1, a2⟩ := ha rfl
   refine ⟨x, t1, h1, by_scopes _ fun c e hs => ?_, a2⟩
   obtain ⟨y, c1, c2, rfl, e0, e1, e2⟩ := inv c e hs
   obtain ⟨s1, s2, s3⟩ := a1 c1 e1
   exact ⟨s1, s2, fun ρ a w w0 Q A R hQ => wp_cond_true (hev y e0 ρ a A) (s3 ρ a w w0 Q A R hQ)⟩
 | false =>
   obtain ⟨x, t1, h1, a1, a2⟩ := hb rfl
   refine ⟨x, t1, h1, by_scopes _ fun c e hs => ?_, a2⟩
   obtain ⟨y, c1, c2, rfl, e0, e1, e2⟩ := inv c e hs
   obtain ⟨s1, s2, s3⟩ := a1 c2 e2
   exact ⟨s1, s2, fun ρ a w w0 Q A R hQ => wp_cond_false (hev y e0 ρ a A) (s3 ρ a w w0 Q A R hQ)⟩
def Out (id : Nat) (K : X → F → H → Prop) : X → F → H → Prop
 | .exit j, t, h => if j = id then K .normal t h else K (.exit j) t h
 | x, t, h => K x t h
theorem Ok.block {id : Nat} {a : CC} (k : Ok P nt a t h (Out id K)) : Ok P nt (.block id a) t h K := by
 obtain ⟨x, t1, h1, a1, a2⟩ := k
 have inv : ∀ c, comp P nt c = .block id a → (∀ d, c ≠ .scope d) → ∃ c1, c = .block id c1 ∧ comp P nt c1 = a := by
   intro c e hs
   cases c with
   | block j c1 => cases e; exact ⟨c1, rfl, rfl⟩
   | scope d => exact absurd rfl (hs d)
   | region id ops draw =>
     have e' : compRegion P nt ops.toList draw = .block _ a := e
     unfold compRegion at e'
     split at e'
     · cases e'
     · split at e' <;> cases e'
   | _ => cases e
 cases x with
 | normal =>
   refine ⟨_, t1, h1, by_scopes _ fun c e hs => ?_, a2⟩
   obtain ⟨c1, rfl, e1⟩ := inv c e hs
   obtain ⟨s1, s2, s3⟩ := a1 c1 e1
   exact ⟨s1, s2, fun ρ a w w0 Q A R hQ => wp_block (s3 ρ a w w0 _ A R fun ρ' a' w' l1 A' R' => hQ ρ' a' w' l1 A' R')⟩
 | ret =>
   refine ⟨_, t1, h1, by_scopes _ fun c e hs => ?_, a2⟩
   obtain ⟨c1, rfl, e1⟩ := inv c e hs
   obtain ⟨s1, s2, s3⟩ := a1 c1 e1
   exact ⟨s1, s2, fun ρ a w w0 Q A R hQ => wp_block (s3 ρ a w w0 _ A R fun ρ' a' w' l1 A' R' => hQ ρ' a' w' l1 A' R')⟩
 | exit j =>
   by_cases hj : j = id
   · have a2' : K .normal t1 h1 := by
       have : (if j = id then K .normal t1 h1 else K (.exit j) t1 h1) := a2
       rwa [if_pos hj] at this
     refine ⟨_, t1, h1, by_scopes _ fun c e hs => ?_, a2'⟩
     obtain ⟨c1, rfl, e1⟩ := inv c e hs
     obtain ⟨s1, s2, s3⟩ := a1 c1 e1
     refine ⟨s1, s2, fun ρ a w w0 Q A R hQ => wp_block (s3 ρ a w w0 _ A R fun ρ' a' w' l1 A' R' => ?_)⟩
     show (if j = id then Q .normal a' w' else Q (.exit j) a' w')
     rw [if_pos hj]; exact hQ ρ' a' w' l1 A' R'
   · have a2' : K (.exit j) t1 h1 := by
       have : (if j = id then K .normal t1 h1 else K (.exit j) t1 h1) := a2
       rwa [if_neg hj] at this
     refine ⟨_, t1, h1, by_scopes _ fun c e hs => ?_, a2'⟩
     obtain ⟨c1, rfl, e1⟩ := inv c e hs
     obtain ⟨s1, s2, s3⟩ := a1 c1 e1
     refine ⟨s1, s2, fun ρ a w w0 Q A R hQ => wp_block (s3 ρ a w w0 _ A R fun ρ' a' w' l1 A' R' => ?_)⟩
     show (if j = id then Q .normal a' w' else Q (.exit j) a' w')
     rw [if_neg hj]; exact hQ ρ' a' w' l1 A' R'
end
theorem Ok.loop {P : Program} {nt : Nat} {a : CC} {K : X → F → H → Prop} (Inv : Nat → F → H → Prop)
   (round : ∀ m t h, Inv m t h → Ok P nt a t h (Then (fun t' h' => ∃ m', m' < m ∧ Inv m' t' h') K)) : ∀ m t h, Inv m t h → Ok P nt (.loop a) t h K := by
 have inv : ∀ c, comp P nt c = .loop a → (∀ d, c ≠ .scope d) → ∃ c1, c = .loop c1 ∧ comp P nt c1 = a := by
   intro c e hs
   cases c with
   | loop c1 => cases e; exact ⟨c1, rfl, rfl⟩
   | scope d => exact absurd rfl (hs d)
   | region id ops draw =>
     have e' : compRegion P nt ops.toList draw = .loop a := e
     unfold compRegion at e'
     split at e'
     · cases e'
     · split at e' <;> cases e'
   | _ => cases e
 have main : ∀ n m t h, m ≤ n → Inv m t h → ∃ x t' h', (∀ c, comp P nt c = a → KeepF h h' ∧ B.val h.next ≤ B.val h'.next ∧ LoopSound P nt c t h x t' h') ∧ K x t' h' := by
   intro n
   induction n with
   | zero =>
     intro m t h hm hI
     obtain ⟨x, t1, h1, a1, a2⟩ := round m t h hI
     cases x with
     | normal => obtain ⟨m', hm', _⟩ := a2; omega
     | exit id => exact ⟨_, t1, h1, fun c e => ⟨(a1 c e).1, (a1 c e).2.1, fun ρ a w w0 Q A R hQ => loopArr_of ((a1 c e).2.2 ρ a w w0 _ A R fun ρ' a' w' l1 A' R' => hQ ρ' a' w' l1 A' R')⟩, a2⟩
     | ret => exact ⟨_, t1, h1, fun c e => ⟨(a1 c e).1, (a1 c e).2.1, fun ρ a w w0 Q A R hQ => loopArr_of ((a1 c e).2.2 ρ a w w0 _ A R fun ρ' a' w' l1 A' R' => hQ ρ' a' w' l1 A' R')⟩, a2⟩
   | succ n ih =>
     intro m t h hm hI
     obtain ⟨x, t1, h1, a1, a2⟩ := round m t h hI
     cases x with
     | normal =>
       obtain ⟨m', hm', hI'⟩ := a2
       obtain ⟨x2, t2, h2, b1, b2⟩ := ih m' t1 h1 (by omega) hI'
       refine ⟨x2, t2, h2, fun c e => ?_, b2⟩
       obtain ⟨s1, s2, s3⟩ := a1 c e
       obtain ⟨r1, r2, r3⟩ := b1 c e
       refine ⟨KeepF.trans s1 s2 r1, Nat.le_trans s2 r2, fun ρ a w w0 Q A R hQ => ?_⟩
       refine loopArr_of (s3 ρ a w w0 _ A R fun ρ' a' w' l1 A' R' => ?_)
       exact r3 ρ' a' w' w0 Q A' R' fun ρ'' a'' w'' l2 A'' R'' => hQ ρ'' a'' w'' (l1.trans (by rw [← s1.1]; exact l2)) A'' R''
     | exit id => exact ⟨_, t1, h1, fun c e => ⟨(a1 c e).1, (a1 c e).2.1, fun ρ a w w0 Q A R hQ => loopArr_of ((a1 c e).2.2 ρ a w w0 _ A R fun ρ' a' w' l1 A' R' => hQ ρ' a' w' l1 A' R')⟩, a2⟩
     | ret => exact ⟨_, t1, h1, fun c e => ⟨(a1 c e).1, (a1 c e).2.1, fun ρ a w w0 Q A R hQ => loopArr_of ((a1 c e).2.2 ρ a w w0 _ A R fun ρ' a' w' l1 A' R' => hQ ρ' a' w' l1 A' R')⟩, a2⟩
 intro m t h hI
 obtain ⟨x, t', h', a1, a2⟩ := main m m t h (Nat.le_refl _) hI
 refine ⟨x, t', h', by_scopes _ fun c e hs => ?_, a2⟩
 obtain ⟨c1, rfl, e1⟩ := inv c e hs
 obtain ⟨s1, s2, s3⟩ := a1 c1 e1
 exact ⟨s1, s2, fun ρ a w w0 Q A R hQ => wp_loop_of (s3 ρ a w w0 Q A R hQ)⟩
def FnRes (P : Program) (f : FuncId) (vs : List V) (h : H) (v : V) (h' : H) : Prop := KeepF h h' ∧ B.val h.next ≤ B.val h'.next ∧
 ∀ ρ w w0 args, LRel ρ vs args → HRel ρ h w w0 →
   (callFunc f args.toArray).run P w = .ok (.enter f args.toArray) w ∧ Calls P f args.toArray w fun e w' => ∃ x, e = .returned x ∧ Done h.floor ρ w0 v h' x w'
def FnOk (P : Program) (f : FuncId) (vs : List V) (h : H) (K : V → H → Prop) : Prop := ∃ v h', FnRes P f vs h v h' ∧ K v h'
theorem FnOk.mono {P : Program} {f : FuncId} {vs : List V} {h : H} {K K' : V → H → Prop} (a : FnOk P f vs h K) (hk : ∀ v h, K v h → K' v h) : FnOk P f vs h K' := by
 obtain ⟨v, h', a1, a2⟩ := a
 exact ⟨v, h', a1, hk _ _ a2⟩
abbrev Spec := FuncId → List V → H → V → H → Prop
open Classical in
noncomputable def cfS (P : Program) (S : Spec) : CallF := fun f vs h k => if e : ∃ r : V × H, FnRes P f vs h r.1 r.2 ∧ S f vs h r.1 r.2 then k (Classical.choose e).1 (Classical.choose e).2 else false
theorem cfS_ok (P : Program) (S : Spec) : CfOk P (cfS P S) := by
 intro f vs h k hk
 unfold cfS at hk
 split at hk
 · rename_i e
   have := (Classical.choose_spec e).1
   refine ⟨_, _, fun k' => ?_, this.1, this.2.1, this.2.2⟩
   · unfold cfS; rw [dif_pos e]
 · cases hk
theorem cfS_call {P : Program} {S : Spec} {f : FuncId} {vs : List V} {h : H} (a : FnOk P f vs h (S f vs h)) : ∃ v h', (∀ k, cfS P S f vs h k = k v h') ∧ S f vs h v h' := by
 have e : ∃ r : V × H, FnRes P f vs h r.1 r.2 ∧ S f vs h r.1 r.2 := by
   obtain ⟨v, h', a1, a2⟩ := a
   exact ⟨(v, h'), a1, a2⟩
 exact ⟨_, _, fun k => by unfold cfS; rw [dif_pos e], (Classical.choose_spec e).2⟩
section
variable {P : Program} {nt : Nat} {t : F} {h : H} {K : X → F → H → Prop}
end
theorem fn_ok {P : Program} {f : FuncId} {fn : Func} {body : Code} {cc : CC} {rs : List Rs} {vs : List V} {h : H} {K : V → H → Prop} (hfn : P.funcs.toList[f]? = some fn) (hb : fn.body = some body) (hnm : (fn.name == "runtime.NumGoroutine") = false)
   (hcc : comp P fn.ntmps body = cc) (hrs : fn.results.toList.map (rsOf P) = rs) (hl1 : vs.length ≤ fn.ntmps) (hl2 : vs.length ≤ 512)
   (ok : Ok P fn.ntmps cc (slotsF vs 0 F.zero) h fun x t' h' => match x with
     | .exit _ => False
     | _ => ∃ us, (∀ k : List V → Bool, resK rs t' h' k = k us) ∧ K (one us) h') : FnOk P f vs h K := by
 obtain ⟨x, t', h', s, k⟩ := ok
 obtain ⟨x2, x3, x4⟩ := s body hcc
 have hfn' : P.funcs[f]? = some fn := by simpa using hfn
 have hx : (x = .normal ∨ x = .ret) ∧ ∃ us, (∀ k : List V → Bool, resK rs t' h' k = k us) ∧ K (one us) h' := by
   cases x with
   | exit id => exact k.elim
   | normal => exact ⟨.inl rfl, k⟩
   | ret => exact ⟨.inr rfl, k⟩
 obtain ⟨r2, us, r1, kk⟩ := hx
 obtain ⟨us', q1, q2⟩ := results_ok (nt := fn.ntmps) (fn := fn) (P := P) (t := t') (h := h') (k := fun _ => true) (by rw [hrs, r1])
 have hus : us' = us := by
   have := q1 fun u => @decide (u = us') (Classical.propDecidable _)
   rw [hrs, r1] at this
   simp at this
   exact this.symm
 subst hus
 refine ⟨one us', h', ⟨x2, x3, fun ρ w w0 args hargs R => ?_⟩, kk⟩
 have hal := hargs.length
 obtain ⟨t0, s1, s2, s3⟩ := slots_ok vs 0 F.zero (fun _ => true) (by omega)
 have ht0 : t0 = slotsF vs 0 F.zero := by
   have := s1 fun u => @decide (u = t0) (Classical.propDecidable _)
   rw [slots_slotsF] at this
   simp at this
   exact this.symm
 constructor
 · have hp : (program : Sem Program).run P w = .ok P w := rfl
   unfold callFunc
   simp only [Sem.run_bind, hp, Result.andThen_ok, hfn', hnm, Bool.false_eq_true, if_false, hb, Option.isNone_some]
   rfl
 · refine calls_of_wp hfn' hb ?_
   have A0 : ARel ρ fn.ntmps t0 { tmps := args.toArray ++ Array.replicate (fn.ntmps - args.toArray.size) undef, defers := [] } := by
     refine ⟨rfl, by simp; omega, fun m hm => ?_⟩
     by_cases hmv : m < vs.length
     · have hv : vs[m]? = some (vs[m]'hmv) := by simp
       obtain ⟨y, y1, y2⟩ := hargs.get hv
       have := s2 m _ hv
       rw [Nat.zero_add] at this
       rw [this]
       have hy : (args.toArray ++ Array.replicate (fn.ntmps - args.toArray.size) undef).getD m undef = y := by
         have hma : m < args.length := by omega
         rw [Array.getD_eq_getD_getElem?, Array.getElem?_append_left (by simpa using hma)]
         simp [y1]
       rw [hy]; exact y2
     · rw [s3 m hm (.inr (by omega)), zero_slot]; trivial
   rw [ht0] at A0
   refine x4 ρ _ w w0 _ A0 R fun ρ' a' w' hle A' R' => ?_
   obtain ⟨y, y1, y2⟩ := q2 ρ' a' w' w0 A' R'
   rcases r2 with rfl | rfl
   · exact ⟨A'.defers, y, y2, y, rfl, ρ', hle, y1, R'⟩
   · exact ⟨A'.defers, y, y2, y, rfl, ρ', hle, y1, R'⟩
theorem FnOk.of_pure {P : Program} {f : FuncId} (p : PureTrue P f) (h : H) : FnOk P f [] h fun v h' => v = .b true ∧ h' = h := by
 refine ⟨.b true, h, ⟨KeepF.refl h, Nat.le_refl _, fun ρ w w0 args hargs R => ?_⟩, rfl, rfl⟩
 have ha : args = [] := by cases args <;> first | rfl | exact hargs.elim
 subst ha
 obtain ⟨p1, p2⟩ := p w
 refine ⟨p1, p2.mono fun e w' he => ?_⟩
 obtain ⟨rfl, s1, s2, s3, s4, s5⟩ := he
 exact ⟨_, rfl, ρ, Ext.refl _ ρ, rfl, R.grow s1 s2 s3 s4 s5⟩
end Go.Ev

set_option linter.all false
namespace Go.Ev
open Go
section
variable {P : Program} {S : Spec} {nt : Nat} {l : List CO} {t : F} {h : H} {K : F → H → Prop}
theorem evalsK_eq (t : F) (k : List V → Bool) : ∀ os : List O, evalsK os t k = k (os.map fun o => oV o t) := by
 intro os
 induction os generalizing k with
 | nil => rfl
 | cons o os ih =>
   have e : evalsK (o :: os) t k = oK o t fun v => evalsK os t fun vs => k (v :: vs) := rfl
   rw [e, oK_eq, ih]; rfl
end
section
variable {K' : F → H → Prop} {K : X → F → H → Prop} {t : F} {h : H} {id j : Nat}
theorem Out_n : Out id K .normal t h = K .normal t h := rfl
theorem Out_e : Out id K (.exit j) t h = if j = id then K .normal t h else K (.exit j) t h := rfl
theorem Out_r : Out id K .ret t h = K .ret t h := rfl
end
section
variable (cf : CallF) (t : F) (h : H) (k : V → H → Bool) (o x y c : O)
theorem ev_move : doMove o cf t h k = k (oV o t) h := by simp only [doMove, oK_eq]
theorem ev_pick : doPick c x y cf t h k = vB (oV c t) fun q => k (cond q (oV x t) (oV y t)) h := by
 simp only [doPick, oE_eq, oK_eq]
 congr 1; funext q; cases q <;> rfl
theorem ev_bin (f : BinF) : bin2 f x y cf t h k = vI (oV x t) fun kd a => vI (oV y t) fun kd' b => ifK (kdEq kd kd') fun _ => f kd a b fun v => k v h := by simp only [bin2, oE_eq]
theorem ev_not : doNot x cf t h k = vB (oV x t) fun a => k (.b (!a)) h := by simp only [doNot, oE_eq, fB_eq]
theorem ev_bool (ne : Bool) : doBool ne x y cf t h k = vB (oV x t) fun a => vB (oV y t) fun b => k (.b (xor ne (xor (xor a b) true))) h := by simp only [doBool, oE_eq, fB_eq]
theorem ev_extract (j : Nat) : doExtract j x cf t h k = vT (oV x t) fun vs => optK (vs[j]?) fun v => k v h := by simp only [doExtract, oE_eq, forceV_eq]
theorem ev_lenS : doLenS x cf t h k = vS (oV x t) fun n _ => k (.i .i64 (.ofNat n)) h := by simp only [doLenS, oE_eq]
theorem ev_load : doLoad o cf t h k = vP (oV o t) fun id g off fin => load1 h id g off fin fun v => k v h := by simp only [doLoad, oE_eq]
theorem ev_loadA (size : Nat) : doLoadA size o cf t h k = vP (oV o t) fun id g off fin => loadN h id g off fin size fun vs => k (.a vs) h := by simp only [doLoadA, oE_eq]
theorem ev_fieldAddr (d : Nat) : doFieldAddr d o cf t h k = vP (oV o t) fun id g off fin => k (.p id g (off + d) fin) h := by simp only [doFieldAddr, oE_eq, fN_eq]; rfl
theorem ev_field (d : Nat) : doField d o cf t h k = vA (oV o t) fun cs => optK (cs[d]?) fun v => k v h := by simp only [doField, oE_eq, forceV_eq]
theorem ev_fieldA (d size : Nat) : doFieldA d size o cf t h k = vA (oV o t) fun cs => k (.a ((cs.drop d).take size)) h := by simp only [doFieldA, oE_eq]
theorem ev_nilCheck : doNilCheck o cf t h k = vP (oV o t) fun id g off fin => k (.p id g off fin) h := by simp only [doNilCheck, oE_eq]
theorem ev_min : doMin x y cf t h k = vI (oV x t) fun kd a => vI (oV y t) fun kd' b => ifK (kdEq kd kd') fun _ => k (.i kd (min a b)) h := by
 simp only [doMin, oE_eq, ltI_eq]
 congr 1; funext kd a; congr 1; funext kd' b
 congr 1; funext _
 by_cases hba : b < a
 · simp [hba, boolK]; rw [Int.min_eq_right (by omega)]
 · simp [hba, boolK]; rw [Int.min_eq_left (by omega)]
theorem ev_max : doMax x y cf t h k = vI (oV x t) fun kd a => vI (oV y t) fun kd' b => ifK (kdEq kd kd') fun _ => k (.i kd (max a b)) h := by
 simp only [doMax, oE_eq, ltI_eq]
 congr 1; funext kd a; congr 1; funext kd' b
 congr 1; funext _
 by_cases hba : a < b
 · simp [hba, boolK]; rw [Int.max_eq_right (by omega)]
 · simp [hba, boolK]; rw [Int.max_eq_left (by omega)]
end
section
variable (kd : IntKind) (a b : Int) (k : V → Bool)
theorem f_add : fAdd kd a b k = k (.i kd (kd.wrap (a + b))) := wrapF_eq _ _ _
theorem f_sub : fSub kd a b k = k (.i kd (kd.wrap (a - b))) := wrapF_eq _ _ _
theorem f_mul : fMul kd a b k = k (.i kd (kd.wrap (a * b))) := wrapF_eq _ _ _
theorem f_lss : fLss kd a b k = k (.b (decide (a < b))) := by simp only [fLss, fB_eq, ltI_eq]
theorem f_gtr : fGtr kd a b k = k (.b (decide (b < a))) := by simp only [fGtr, fB_eq, ltI_eq]
theorem f_leq : fLeq kd a b k = k (.b (decide (a ≤ b))) := by
 simp only [fLeq, fB_eq, ltI_eq]; congr 2
 by_cases h : b < a
 · simp [h]
 · simp [h]; omega
theorem f_geq : fGeq kd a b k = k (.b (decide (b ≤ a))) := by
 simp only [fGeq, fB_eq, ltI_eq]; congr 2
 by_cases h : a < b
 · simp [h]
 · simp [h]; omega
theorem f_eql : fEql kd a b k = k (.b (decide (a = b))) := by simp only [fEql, fB_eq, eqI_eq]; congr 2
theorem f_neq : fNeq kd a b k = k (.b (!decide (a = b))) := by simp only [fNeq, fB_eq, eqI_eq]; congr 2
end
theorem kdEq_self (kd : IntKind) : kdEq kd kd = true := by cases kd <;> rfl
theorem wrap_i64 {n : Int} (h1 : -9223372036854775808 ≤ n) (h2 : n ≤ 9223372036854775807) : IntKind.i64.wrap n = n := by
 cases n with
 | ofNat m => exact wrap_small .i64 m (by show m ≤ 9223372036854775807; simp at h2; omega)
 | negSucc m =>
   simp only [IntKind.wrap, IntKind.bits, IntKind.signed]
   have e : Int.negSucc m % (2 ^ 64 : Int) = 2 ^ 64 - (m + 1) := by omega
   simp [e]
   omega
noncomputable def cellB (blk : Option Blk) (g off : Nat) : Option V := match blk with
 | some b => if b.min ≤ g then b.cells.getN off else none
 | none => none
noncomputable def cell (h : H) (id : B) (g off : Nat) : Option V := cellB (h.heap.get id) g off
theorem load1_cell {h : H} {id : B} {g off fin : Nat} {v : V} (hc : cell h id g off = some v) (hf : off < fin) (k : V → Bool) : load1 h id g off fin k = k v := by
 obtain ⟨next, floor, heap⟩ := h
 unfold cell cellB at hc
 simp only at hc
 split at hc
 · rename_i blk hb
   obtain ⟨cur, min, size, cells, el, fr⟩ := blk
   simp only at hc
   split at hc
   · rename_i hm
     have h1 : Nat.ble min g = true := by rw [Nat.ble_eq]; exact hm
     have h2 : Nat.ble (Nat.succ off) fin = true := by rw [Nat.ble_eq]; exact hf
     simp only [load1, hK_mk, hb, optK_some, blkK_mk, h1, h2, ifK_true, hc, forceV_eq]
   · cases hc
 · cases hc
theorem getList_cells (cells : T V) : ∀ (n off : Nat) (vs : List V) (k : List V → Bool), vs.length = n → (∀ i v, vs[i]? = some v → cells.getN (off + i) = some v) → getList n cells off k = k vs
 | 0, off, vs, k, hl, _ => by
   have : vs = [] := List.eq_nil_of_length_eq_zero hl
   subst this; rfl
 | n + 1, off, vs, k, hl, hv => by
   cases vs with
   | nil => simp at hl
   | cons v vs =>
     have e : getList (n + 1) cells off k = optK (cells.getN off) fun v => getList n cells (off + 1) fun vs => k (v :: vs) := rfl
     have h0 := hv 0 v rfl
     rw [Nat.add_zero] at h0
     rw [e, h0, optK_some, getList_cells cells n (off + 1) vs _ (by simpa using hl) fun i u hu => by have := hv (i + 1) u (by simpa using hu); rwa [show off + (i + 1) = off + 1 + i by omega] at this]
def Row (h : H) (id : B) (g off : Nat) (vs : List V) : Prop := (vs ≠ [] → ∃ b, h.heap.get id = some b ∧ b.min ≤ g) ∧ ∀ i v, vs[i]? = some v → cell h id g (off + i) = some v
theorem loadN_row {h : H} {id : B} {g off fin n : Nat} {vs : List V} (hr : Row h id g off vs) (hn : vs.length = n) (hne : vs ≠ []) (hf : off + n ≤ fin) (k : List V → Bool) : loadN h id g off fin n k = k vs := by
 obtain ⟨next, floor, heap⟩ := h
 obtain ⟨hr1, hc⟩ := hr
 obtain ⟨b, hb, hm⟩ := hr1 hne
 obtain ⟨cur, min, size, cells, el, fr⟩ := b
 have h1 : Nat.ble min g = true := by rw [Nat.ble_eq]; exact hm
 have h2 : Nat.ble (Nat.add off n) fin = true := by rw [Nat.ble_eq]; exact hf
 simp only [loadN, hK_mk]
 have hb' : heap.get id = some ⟨cur, min, size, cells, el, fr⟩ := hb
 simp only [hb', optK_some, blkK_mk, h1, h2, ifK_true]
 refine getList_cells cells n off vs k hn fun i v hv => ?_
 have := hc i v hv
 unfold cell cellB at this
 simp only [hb'] at this
 rwa [if_pos hm] at this
theorem setN_fine : ∀ (f n : Nat) (x : V) (t : T V) (k : T V → Bool), n + 1 < 2 ^ f → (∀ t', k t' = true) → T.setN f x t n k = true := by
 intro f
 induction f with
 | zero => intro n x t k h; simp at h
 | succ f ih =>
   intro n x t k h hk
   cases n with
   | zero => cases t <;> exact hk _
   | succ m =>
     have e : T.setN (f + 1) x t (m + 1) k = nS2 (m % 2) m (T.setN f) x t k := rfl
     have hm : m / 2 + 1 < 2 ^ f := by rw [Nat.pow_succ] at h; omega
     rw [e]
     rcases Nat.mod_two_eq_zero_or_one m with hp | hp
     · have e2 : nS2 (m % 2) m (T.setN f) x t k = nO t (T.setN f) x (m / 2) k := by rw [hp]; rfl
       rw [e2]
       cases t with
       | o => exact ih _ _ _ _ hm fun _ => hk _
       | n l v r => exact ih _ _ _ _ hm fun _ => hk _
     · have e2 : nS2 (m % 2) m (T.setN f) x t k = nI t (T.setN f) x (m / 2) k := by rw [hp]; rfl
       rw [e2]
       cases t with
       | o => exact ih _ _ _ _ hm fun _ => hk _
       | n l v r => exact ih _ _ _ _ hm fun _ => hk _
theorem setList_fine : ∀ (vs : List V) (n : Nat) (t : T V), n + vs.length < 2 ^ 38 → ∃ t', (∀ k, setList vs n t k = k t') ∧ (∀ i v, vs[i]? = some v → t'.getN (n + i) = some v) ∧ ∀ m, m < n ∨ n + vs.length ≤ m → t'.getN m = t.getN m := by
 have fine : ∀ (vs : List V) (n : Nat) (t : T V) (k : T V → Bool), n + vs.length < 2 ^ 38 → (∀ t', k t' = true) → setList vs n t k = true := by
   intro vs
   induction vs with
   | nil => intro n t k _ hk; exact hk t
   | cons v vs ih =>
     intro n t k hl hk
     exact setN_fine 40 n v t _ (by simp at hl; omega) fun t' => ih (n + 1) t' k (by simp at hl; omega) hk
 intro vs n t hl
 exact setList_ok vs n t (fun _ => true) (fine vs n t _ hl fun _ => rfl)
structure Stay (p : B → Prop) (h h' : H) : Prop where
 floor : h'.floor = h.floor
 next : B.val h.next ≤ B.val h'.next
 get : ∀ id, B.val id < B.val h.next → ¬ p id → h'.heap.get id = h.heap.get id
theorem Stay.refl (p : B → Prop) (h : H) : Stay p h h := ⟨rfl, Nat.le_refl _, fun _ _ _ => rfl⟩
theorem Stay.trans {p : B → Prop} {a b c : H} (x : Stay p a b) (y : Stay p b c) : Stay p a c :=
 ⟨y.floor.trans x.floor, Nat.le_trans x.next y.next, fun id h1 h2 => (y.get id (Nat.lt_of_lt_of_le h1 x.next) h2).trans (x.get id h1 h2)⟩
theorem Stay.mono {p q : B → Prop} {a b : H} (x : Stay p a b) (h : ∀ id, B.val id < B.val a.next → p id → q id) : Stay q a b := ⟨x.floor, x.next, fun id h1 h2 => x.get id h1 fun h3 => h2 (h id h1 h3)⟩
def nowhere : B → Prop := fun _ => False
theorem Stay.cell {p : B → Prop} {h h' : H} (x : Stay p h h') {id : B} (h1 : B.val id < B.val h.next) (h2 : ¬ p id) (g off : Nat) : cell h' id g off = cell h id g off := by
 unfold Ev.cell; rw [x.get id h1 h2]
theorem alloc_new (el : Nat) (cs : List V) (h : H) (hl : cs.length < 2 ^ 38) : ∃ h', (∀ k, alloc el cs h k = k h.next h') ∧ Stay nowhere h h' ∧ B.val h'.next = B.val h.next + 1 ∧
   (∃ b, h'.heap.get h.next = some b ∧ b.min = 0 ∧ b.cur = 0 ∧ b.size = cs.length ∧ b.el = el ∧ b.fr = 0 ∧ ∀ i v, cs[i]? = some v → b.cells.getN i = some v) := by
 obtain ⟨next, floor, heap⟩ := h
 obtain ⟨tr, t1, t2, t3⟩ := setList_fine cs 0 .o (by omega)
 obtain ⟨hp, s1, s2, s3⟩ := setK_ok next (⟨0, 0, cs.length, tr, el, 0⟩ : Blk) heap
 obtain ⟨nx, n1, n2⟩ := incK_ok next
 refine ⟨⟨nx, floor, hp⟩, fun k => ?_, ⟨rfl, by show B.val next ≤ B.val nx; omega, fun id h1 _ => s3 id fun e => by rw [e] at h1; exact absurd h1 (Nat.lt_irrefl _)⟩, n2, ⟨0, 0, cs.length, tr, el, 0⟩, s2, rfl, rfl, rfl, rfl, rfl, fun i v hv => ?_⟩
 · show fN cs.length (fun sz => setList cs 0 .o fun t => T.setK next ⟨0, 0, sz, t, el, 0⟩ heap fun heap => B.incK next fun next' => k next ⟨next', floor, heap⟩) = _
   rw [fN_eq, t1, s1, n1]
 · have := t2 i v hv
   rwa [Nat.zero_add] at this
def Lst (h : H) (v : V) (xs : List V) : Prop :=
 (v = .l0 ∧ xs = []) ∨ ∃ id g off fin cap, v = .l id g off xs.length fin cap ∧ off + xs.length ≤ fin ∧ B.val id < B.val h.next ∧ Row h id g off xs
def lid : V → B | .l id _ _ _ _ _ => id | _ => .h
def lg : V → Nat | .l _ g _ _ _ _ => g | _ => 0
def loff : V → Nat | .l _ _ off _ _ _ => off | _ => 0
def lfin : V → Nat | .l _ _ _ _ fin _ => fin | _ => 0
noncomputable def lenV (v : V) (k : Nat → Bool) : Bool := vL v (fun _ => k 0) fun _ _ _ n _ _ => k n
noncomputable def idxV (size : Nat) (v : V) (n : Nat) (k : V → Bool) : Bool := vL v (fun _ => false) fun id g off len fin _ => ifK (Nat.ble (n + 1) len) fun _ => k (.p id g (off + n * size) fin)
theorem ev_len (x : O) (cf : CallF) (t : F) (h : H) (k : V → H → Bool) : doLen x cf t h k = lenV (oV x t) fun n => k (.i .i64 (n : Int)) h := by simp only [doLen, oE_eq]; rfl
theorem ev_idx (size : Nat) (o x : O) (cf : CallF) (t : F) (h : H) (k : V → H → Bool) : doIndexAddr size o x cf t h k = vI (oV x t) fun _ n => natK n fun n => idxV size (oV o t) n fun p => k p h := by
 have no : ∀ u : V, (vI u fun _ n => natK n fun _ => false) = false := by
   intro u
   cases u <;> first | rfl | (rename_i kd n; cases n <;> rfl)
 simp only [doIndexAddr, oE_eq]
 generalize oV o t = v
 generalize oV x t = u
 have hn : ∀ w : V, (∀ z k, vL w z k = false) → (vI u fun _ n => natK n fun n => idxV size w n fun p => k p h) = false := by
   intro w hw
   have : (fun (_ : IntKind) (n : Int) => natK n fun n => idxV size w n fun p => k p h) = fun _ n => natK n fun _ => false := by
     funext _ n; congr 1; funext n; exact hw _ _
   rw [this]; exact no u
 cases v with
 | l id g off len fin cap => simp only [vL_l, fN_eq]; rfl
 | l0 =>
   have : (vI u fun _ n => natK n fun n => idxV size .l0 n fun p => k p h) = false := no u
   rw [this]; rfl
 | _ => rw [hn _ fun _ _ => rfl]; rfl
theorem natK_cast (i : Nat) (k : Nat → Bool) : natK (i : Int) k = k i := rfl
theorem Lst.len {h0 : H} {v : V} {xs : List V} (a : Lst h0 v xs) (k : Nat → Bool) : lenV v k = k xs.length := by
 rcases a with ⟨rfl, rfl⟩ | ⟨id, g, off, fin, cap, rfl, _⟩ <;> rfl
theorem Lst.idx {h0 : H} {v : V} {xs : List V} {i : Nat} (a : Lst h0 v xs) (hi : i < xs.length) (k : V → Bool) : idxV 1 v i k = k (.p (lid v) (lg v) (loff v + i) (lfin v)) := by
 rcases a with ⟨rfl, rfl⟩ | ⟨id, g, off, fin, cap, rfl, _⟩
 · simp at hi
 · have h1 : Nat.ble (i + 1) xs.length = true := by rw [Nat.ble_eq]; exact hi
   show ifK (Nat.ble (i + 1) xs.length) (fun _ => k (.p id g (off + i * 1) fin)) = _
   rw [h1, ifK_true, Nat.mul_one]; rfl
theorem load_lst {h : H} {v : V} {xs : List V} {i : Nat} {y : V} (a : Lst h v xs) (hy : xs[i]? = some y) (k : V → Bool) : load1 h (lid v) (lg v) (loff v + i) (lfin v) k = k y := by
 have hi := (List.getElem?_eq_some_iff.1 hy).1
 rcases a with ⟨rfl, rfl⟩ | ⟨id, g, off, fin, cap, rfl, h2, _, h4⟩
 · simp at hi
 · exact load1_cell (h4.2 i y hy) (by show off + i < fin; omega) k
theorem Row.stay {p : B → Prop} {h h' : H} {id : B} {g off : Nat} {vs : List V} (r : Row h id g off vs) (s : Stay p h h') (h1 : B.val id < B.val h.next) (h2 : ¬ p id) : Row h' id g off vs := by
 obtain ⟨r1, r2⟩ := r
 exact ⟨(fun hne => by obtain ⟨b, b1, b2⟩ := r1 hne; exact ⟨b, (s.get id h1 h2).trans b1, b2⟩), fun i v hv => (s.cell h1 h2 g (off + i)).trans (r2 i v hv)⟩
theorem Lst.stay {p : B → Prop} {h h' : H} {v : V} {xs : List V} (a : Lst h v xs) (s : Stay p h h') (hp : ∀ id g off n fin cap, v = .l id g off n fin cap → ¬ p id) : Lst h' v xs := by
 rcases a with ⟨rfl, rfl⟩ | ⟨id, g, off, fin, cap, rfl, h2, h3, h4⟩
 · exact .inl ⟨rfl, rfl⟩
 · exact .inr ⟨id, g, off, fin, cap, rfl, h2, Nat.lt_of_lt_of_le h3 s.next, h4.stay s h3 (hp _ _ _ _ _ _ rfl)⟩
theorem Lst.grow {h h' : H} {v : V} {xs : List V} (a : Lst h v xs) (s : Stay nowhere h h') : Lst h' v xs := a.stay s fun _ _ _ _ _ _ _ => id
theorem res_1 (n : Nat) (t : F) (h : H) (k : List V → Bool) : resK [Rs.tmp (slOf n)] t h k = k [get n t] := by
 show forceV (sGet (slOf n) t) (fun v => k [v]) = _
 rw [forceV_eq]; rfl
theorem res_2 (n m : Nat) (t : F) (h : H) (k : List V → Bool) : resK [Rs.tmp (slOf n), Rs.tmp (slOf m)] t h k = k [get n t, get m t] := by
 show forceV (sGet (slOf n) t) (fun v => forceV (sGet (slOf m) t) fun u => k [v, u]) = _
 rw [forceV_eq, forceV_eq]; rfl
theorem one_1 (v : V) : one [v] = v := rfl
theorem one_2 (v u : V) : one [v, u] = .tu [v, u] := rfl
theorem Row.grow {h h' : H} {id : B} {g off : Nat} {vs : List V} (r : Row h id g off vs) (s : Stay nowhere h h') (h1 : B.val id < B.val h.next) : Row h' id g off vs := r.stay s h1 fun h => h
theorem fn_run {P : Program} {f : FuncId} {nt : Nat} {cc : CC} {rs : List Rs} {vs : List V} {h : H} {K : V → H → Prop} (hc : compFn P f = ⟨nt, cc, rs⟩) (hbad : cc ≠ .bad) (hl1 : vs.length ≤ nt) (hl2 : vs.length ≤ 512)
   (ok : Ok P nt cc (slotsF vs 0 F.zero) h fun x t' h' => match x with
     | .exit _ => False
     | _ => ∃ us, (∀ k : List V → Bool, resK rs t' h' k = k us) ∧ K (one us) h') : FnOk P f vs h K := by
 unfold compFn at hc
 split at hc
 · cases hc; exact absurd rfl hbad
 · rename_i fn hfn
   split at hc
   · rename_i b hb hnm
     cases hc
     exact fn_ok hfn hb hnm rfl rfl hl1 hl2 ok
   · cases hc; exact absurd rfl hbad
end Go.Ev

set_option linter.all false
namespace Go.Ev
open Go
noncomputable def nb : Nat → B
 | 0 => .h
 | n + 1 => Classical.choose (incK_ok (nb n))
theorem nb_val : ∀ n, B.val (nb n) = n + 1
 | 0 => rfl
 | n + 1 => by
   have := (Classical.choose_spec (incK_ok (nb n))).2
   show B.val (Classical.choose (incK_ok (nb n))) = _
   rw [this, nb_val n]
theorem nb_inj {m n : Nat} (h : nb m = nb n) : m = n := by
 have := congrArg B.val h
 rw [nb_val, nb_val] at this; omega
def csz (W : World) (n : Nat) : Nat := match W.heap[n]? with
 | some (.cells c _ _) => c.size
 | _ => 0
open Classical in
noncomputable def emb0 (W : World) : Emb := fun id g => if e : g = 0 ∧ ∃ n, n < W.heap.size ∧ id = nb n then some ⟨Classical.choose e.2, 0, csz W (Classical.choose e.2), csz W (Classical.choose e.2), none⟩ else none
theorem emb0_eq {W : World} {n : Nat} (h : n < W.heap.size) : emb0 W (nb n) 0 = some ⟨n, 0, csz W n, csz W n, none⟩ := by
 have e : (0 : Nat) = 0 ∧ ∃ m, m < W.heap.size ∧ nb n = nb m := ⟨rfl, n, h, rfl⟩
 unfold emb0
 rw [dif_pos e]
 have := nb_inj (Classical.choose_spec e.2).2
 rw [← this]
theorem emb0_inv {W : World} {id : B} {g : Nat} {L : Loc} (h : emb0 W id g = some L) : ∃ n, n < W.heap.size ∧ id = nb n ∧ g = 0 ∧ L = ⟨n, 0, csz W n, csz W n, none⟩ := by
 unfold emb0 at h
 split at h
 · rename_i e
   cases h
   exact ⟨_, (Classical.choose_spec e.2).1, (Classical.choose_spec e.2).2, e.1, rfl⟩
 · cases h
noncomputable def absV (W : World) : Value → V
 | .bool b => .b b
 | .int k n => .i k n
 | .string bs => .s bs.size (pk bs.data.toList)
 | .pointer none => .p0
 | .pointer (some ⟨b, off, none⟩) => open Classical in if b < W.heap.size then .p (nb b) 0 off (csz W b) else .u
 | .slice none 0 0 => .l0
 | .slice (some ⟨b, off, none⟩) (n + 1) cap => open Classical in if b < W.heap.size ∧ n + 1 ≤ cap ∧ cap < 18446744073709551616 then .l (nb b) 0 off (n + 1) (csz W b) (some cap) else .u
 | .slice (some _) 0 _ => open Classical in if 0 < W.heap.size then .l (nb 0) 0 0 0 0 none else .u
 | .nilFunc => .f0
 | .nilIface => .x0
 | .map none => .m0
 | _ => .u
theorem absV_rel (W : World) (x : Value) : VRel (emb0 W) (absV W x) x := by
 unfold absV
 split
 · rfl
 · rfl
 · rename_i bs
   refine ⟨bs, rfl, rfl, foldl_pk0 _⟩
 · rfl
 · split
   · rename_i h
     exact ⟨_, emb0_eq h, rfl, Nat.zero_le _, Nat.le_refl _⟩
   · trivial
 · rfl
 · split
   · rename_i h
     exact ⟨_, _, _, emb0_eq h.1, rfl, h.2.1, Nat.zero_le _, Nat.le_refl _, .inr rfl, (fun d hd _ => by cases hd; rfl), (fun hd => absurd hd (Unk.no h.2.2))⟩
   · trivial
 · split
   · rename_i h
     exact ⟨_, _, _, emb0_eq h, rfl, Nat.zero_le _, Nat.zero_le _, Nat.zero_le _, .inl ⟨rfl, .inl rfl⟩, (fun d hd => by cases hd), (fun _ => .inl ⟨rfl, rfl⟩)⟩
   · trivial
 · rfl
 · rfl
 · rfl
 · trivial
theorem tree_of (vs : List V) : ∃ t : T V, ∀ (i : Nat) v, vs[i]? = some v → t.getN i = some v := by
 have key : ∀ n, ∃ t : T V, ∀ (i : Nat) v, i < n → vs[i]? = some v → t.getN i = some v := by
   intro n
   induction n with
   | zero => exact ⟨.o, fun i v h => absurd h (Nat.not_lt_zero i)⟩
   | succ n ih =>
     obtain ⟨t, ht⟩ := ih
     cases hv : vs[n]? with
     | none => exact ⟨t, fun i v hi h => by
         by_cases e : i = n
         · subst e; rw [hv] at h; cases h
         · exact ht i v (by omega) h⟩
     | some x =>
       obtain ⟨t', h1, h2, h3⟩ := setN_ok (n + 2) x t n (fun _ => true) (setN_fine (n + 2) n x t _ (Nat.lt_trans (Nat.lt_succ_self _) Nat.lt_two_pow_self) fun _ => rfl)
       refine ⟨t', fun i v hi h => ?_⟩
       by_cases e : i = n
       · subst e; rw [hv] at h; cases h; exact h2
       · rw [h3 i e]; exact ht i v (by omega) h
 obtain ⟨t, ht⟩ := key vs.length
 exact ⟨t, fun i v h => ht i v (List.getElem?_eq_some_iff.1 h).1 h⟩
def BlkAt (W : World) (n : Nat) (b : Blk) : Prop := b.cur = 0 ∧ b.size = csz W n ∧ match W.heap[n]? with
 | some (.cells c el fz) => b.min = 0 ∧ b.el = el ∧ b.fr = fz.2 + 2 ∧ ∀ (i : Nat) x, c[i]? = some x → b.cells.getN i = some (absV W x)
 | _ => b.min = 1
theorem blk_at (W : World) (n : Nat) : ∃ b, BlkAt W n b := by
 unfold BlkAt csz
 cases h : W.heap[n]? with
 | none => exact ⟨⟨0, 1, 0, .o, 0, 0⟩, rfl, rfl, rfl⟩
 | some o =>
   cases o with
   | cells c el fz =>
     obtain ⟨t, ht⟩ := tree_of (c.toList.map (absV W))
     refine ⟨⟨0, 0, c.size, t, el, fz.2 + 2⟩, rfl, rfl, rfl, rfl, rfl, fun i x hx => ht i _ ?_⟩
     simp [hx]
   | _ => exact ⟨⟨0, 1, 0, .o, 0, 0⟩, rfl, rfl, rfl⟩
theorem heap_of (W : World) : ∀ k, ∃ hp : T Blk, ∀ n, n < k → ∃ b, hp.get (nb n) = some b ∧ BlkAt W n b := by
 intro k
 induction k with
 | zero => exact ⟨.o, fun n h => absurd h (Nat.not_lt_zero n)⟩
 | succ k ih =>
   obtain ⟨hp, h⟩ := ih
   obtain ⟨b, hb⟩ := blk_at W k
   obtain ⟨hp', s1, s2, s3⟩ := setK_ok (nb k) b hp
   refine ⟨hp', fun n hn => ?_⟩
   by_cases e : n = k
   · subst e; exact ⟨b, s2, hb⟩
   · obtain ⟨b', h1, h2⟩ := h n (by omega)
     exact ⟨b', (s3 _ fun he => e (nb_inj he)).trans h1, h2⟩
theorem start (W : World) : ∃ h : H, HRel (emb0 W) h W W ∧ ∀ n, n < W.heap.size → B.val (nb n) < B.val h.next ∧ B.val (nb n) < B.val h.floor ∧ ∃ b, h.heap.get (nb n) = some b ∧ BlkAt W n b := by
 obtain ⟨hp, hh⟩ := heap_of W W.heap.size
 refine ⟨⟨nb W.heap.size, nb W.heap.size, hp⟩, ⟨?_, ?_, ?_, Nat.le_refl _, fun _ _ => rfl, ?_, rfl, rfl, rfl, Nat.le_refl _, ?_, ?_⟩, fun n hn => ⟨by show B.val (nb n) < B.val (nb _); rw [nb_val, nb_val]; omega, by show B.val (nb n) < B.val (nb _); rw [nb_val, nb_val]; omega, hh n hn⟩⟩
 · intro id g L hL
   obtain ⟨n, hn, rfl, rfl, rfl⟩ := emb0_inv hL
   obtain ⟨b, b1, b2, b3, b4⟩ := hh n hn
   refine ⟨b, b1, by omega, hn, Nat.zero_le _, fun _ => by show csz W n ≤ b.size; omega, fun _ => b3.symm, fun hm => ?_⟩
   cases hx : W.heap[n]? with
   | none => rw [Array.getElem?_eq_none_iff] at hx; omega
   | some o =>
     rw [hx] at b4
     cases o with
     | cells c el fz =>
       obtain ⟨c1, c2, c3, c4⟩ := b4
       have hcs : csz W n = c.size := by unfold csz; rw [hx]
       refine ⟨c, el, ⟨c2.symm, fz, hx, ?_⟩, hcs.symm, by show csz W n - 0 ≤ csz W n; omega, fun i _ hi => ?_⟩
       · rw [c3]; exact .inr (Nat.le_refl _)
       · have hi' : i < c.size := by rw [← hcs]; exact hi
         have hxi : c[i]? = some (c[i]'hi') := by simp
         exact ⟨absV W c[i], c[i], c4 i _ hxi, by simpa using hxi, absV_rel W _⟩
     | _ => exact absurd hm (by rw [b4]; exact Nat.not_succ_le_zero 0)
 · intro id g L hL
   obtain ⟨n, hn, rfl, rfl, rfl⟩ := emb0_inv hL
   show B.val (nb n) < B.val (nb _)
   rw [nb_val, nb_val]; omega
 · intro id g L id' g' L' hL hL' hb
   obtain ⟨n, hn, rfl, rfl, rfl⟩ := emb0_inv hL
   obtain ⟨n', hn', rfl, rfl, rfl⟩ := emb0_inv hL'
   have : n = n' := hb
   subst this; exact ⟨rfl, rfl⟩
 · intro id g L hL hf
   obtain ⟨n, hn, rfl, rfl, rfl⟩ := emb0_inv hL
   have : B.val (nb W.heap.size) ≤ B.val (nb n) := hf
   rw [nb_val, nb_val] at this; omega
 · intro id L blk hL h2 h3
   obtain ⟨n, hn, rfl, _, rfl⟩ := emb0_inv hL
   obtain ⟨b, b1, b2, b3, b4⟩ := hh n hn
   have hbe : hp.get (nb n) = some blk := h2
   rw [b1] at hbe
   cases hbe
   have : blk.min ≤ 1 := by
     revert b4
     split
     · rintro ⟨e, _⟩; omega
     · intro e; omega
   omega
 · intro id g L blk ob hL h2 hg h3 h5
   obtain ⟨n, hn, rfl, _, rfl⟩ := emb0_inv hL
   cases h5
structure Start (W : World) (h : H) : Prop where
 rel : HRel (emb0 W) h W W
 blk : ∀ n, n < W.heap.size → B.val (nb n) < B.val h.next ∧ B.val (nb n) < B.val h.floor ∧ ∃ b, h.heap.get (nb n) = some b ∧ BlkAt W n b
theorem Start.cell {W : World} {h : H} (s : Start W h) {b off : Nat} {x : Value} (hx : W.cell? ⟨b, off, none⟩ = some x) : b < W.heap.size ∧ off < csz W b ∧ (∃ blk, h.heap.get (nb b) = some blk ∧ blk.min ≤ 0) ∧ Ev.cell h (nb b) 0 off = some (absV W x) := by
 simp only [World.cell?] at hx
 split at hx
 · rename_i c el fz hb
   have hlt : b < W.heap.size := (Array.getElem?_eq_some_iff.1 hb).1
   obtain ⟨_, _, blk, b1, b2, b3, b4⟩ := s.blk b hlt
   rw [hb] at b4
   obtain ⟨c1, c2, c3, c4⟩ := b4
   have hcs : csz W b = c.size := by unfold csz; rw [hb]
   refine ⟨hlt, by rw [hcs]; exact (Array.getElem?_eq_some_iff.1 hx).1, ⟨blk, b1, by omega⟩, ?_⟩
   unfold Ev.cell cellB
   rw [b1]
   show (if blk.min ≤ 0 then blk.cells.getN off else none) = _
   rw [if_pos (by omega)]
   exact c4 off x hx
 · cases hx
theorem Start.lst {W : World} {h : H} (s : Start W h) (h0 : 0 < W.heap.size) {a : Addr} {len cap : Nat} (hs : len ≠ 0 → a.spot = none) (hl : len ≤ cap) (hM : cap < 18446744073709551616) (xs : List Value) (hn : xs.length = len) (hx : ∀ i x, xs[i]? = some x → W.cell? ⟨a.block, a.off + i, none⟩ = some x) :
   Lst h (absV W (.slice (some a) len cap)) (xs.map (absV W)) := by
 obtain ⟨b, off, spot⟩ := a
 cases len with
 | zero =>
   have : xs = [] := List.eq_nil_of_length_eq_zero hn
   subst this
   have e : absV W (.slice (some ⟨b, off, spot⟩) 0 cap) = .l (nb 0) 0 0 0 0 none := by unfold absV; simp only [if_pos h0]
   rw [e]
   exact .inr ⟨nb 0, 0, 0, 0, none, rfl, Nat.le_refl _, (s.blk 0 h0).1, fun hne => absurd rfl hne, fun i v hv => by simp at hv⟩
 | succ n =>
   have hs' : spot = none := hs (by omega)
   subst hs'
   have hlast : ∃ x, xs[n]? = some x := ⟨xs[n]'(by omega), by simp⟩
   obtain ⟨x, hxl⟩ := hlast
   obtain ⟨d1, d2, d3, d4⟩ := s.cell (hx n x hxl)
   have e : absV W (.slice (some ⟨b, off, none⟩) (n + 1) cap) = .l (nb b) 0 off (n + 1) (csz W b) (some cap) := by unfold absV; simp only [if_pos (⟨d1, hl, hM⟩ : b < W.heap.size ∧ n + 1 ≤ cap ∧ cap < 18446744073709551616)]
   rw [e]
   refine .inr ⟨nb b, 0, off, csz W b, some cap, by rw [List.length_map, hn], by rw [List.length_map, hn]; have : off + n < csz W b := d2; omega, (s.blk b d1).1, fun _ => d3, fun i v hv => ?_⟩
   rw [List.getElem?_map] at hv
   cases hxi : xs[i]? with
   | none => rw [hxi] at hv; cases hv
   | some y =>
     rw [hxi] at hv
     cases hv
     exact (s.cell (hx i y hxi)).2.2.2
end Go.Ev

set_option linter.all false
namespace Go.Ev
open Go
def Buf (h : H) (el size : Nat) (v : V) (xs : List V) : Prop :=
 (v = .l0 ∧ xs = []) ∨ ∃ id g n blk, v = .l id g 0 n xs.length none ∧ 1 ≤ n ∧ xs.length = n * size ∧ B.val h.floor ≤ B.val id ∧ B.val id < B.val h.next ∧ h.heap.get id = some blk ∧ (blk.min ≤ g ∧ g ≤ blk.cur) ∧ blk.size = xs.length ∧ blk.el = el ∧ blk.fr = 0 ∧
   ∀ i y, xs[i]? = some y → blk.cells.getN i = some y
def isOf (v : V) : B → Prop := fun id => ∃ g off n fin cap, v = .l id g off n fin cap
theorem Buf.nil (h : H) (el size : Nat) : Buf h el size .l0 [] := .inl ⟨rfl, rfl⟩
def Own (h : H) (id : B) (xs : List V) : Prop := ∃ blk, h.heap.get id = some blk ∧ blk.cur = 0 ∧ blk.min = 0 ∧ blk.fr = 0 ∧ B.val h.floor ≤ B.val id ∧ B.val id < B.val h.next ∧ ∀ i y, xs[i]? = some y → blk.cells.getN i = some y
theorem Own.stay {p : B → Prop} {h h' : H} {id : B} {xs : List V} (o : Own h id xs) (s : Stay p h h') (hp : ¬ p id) : Own h' id xs := by
 obtain ⟨blk, h1, h2, h3, h4, h5, h6, h7⟩ := o
 exact ⟨blk, (s.get id h6 hp).trans h1, h2, h3, h4, by rw [s.floor]; exact h5, Nat.lt_of_lt_of_le h6 s.next, h7⟩
theorem Own.row {h : H} {id : B} {xs : List V} (o : Own h id xs) : Row h id 0 0 xs := by
 obtain ⟨blk, h1, h2, h3, h4, h5, h6, h7⟩ := o
 refine ⟨fun _ => ⟨blk, h1, by omega⟩, fun i y hy => ?_⟩
 unfold Ev.cell cellB
 rw [h1]
 show (if blk.min ≤ 0 then blk.cells.getN (0 + i) else none) = _
 rw [if_pos (by omega), Nat.zero_add]
 exact h7 i y hy
theorem store_own {h : H} {id : B} {xs : List V} {j fin : Nat} {y : V} (o : Own h id xs) (hj : j < fin) (hfit : j < 2 ^ 37) (h1 : oneV y = true) : ∃ h', (∀ k, store h id 0 j fin [y] k = k h') ∧ Own h' id (xs.set j y) ∧ Stay (fun i => i = id) h h' := by
 obtain ⟨blk, a1, a2, a3, a4, a5, a6, a7⟩ := o
 obtain ⟨next, floor, heap⟩ := h
 obtain ⟨cur, min, sz, cells, bel, fr⟩ := blk
 simp only at a2 a3 a4 a7
 subst a2; subst a3; subst a4
 obtain ⟨tr, t1, t2, t3⟩ := setList_fine [y] j cells (by simp; omega)
 obtain ⟨hp, s1, s2, s3⟩ := setK_ok id (⟨0, 0, sz, tr, bel, 0⟩ : Blk) heap
 have e1 : B.geB floor id = true := by cases floor <;> first | rfl | (show Nat.ble _ _ = true; rw [Nat.ble_eq]; exact a5)
 have e2 : Nat.ble (Nat.add j 1) fin = true := by rw [Nat.ble_eq]; exact hj
 have e3 : allOne [y] = true := by show Bool.rec false true (oneV y) = true; rw [h1]
 have e4 : frOk 0 j = true := rfl
 have e5 : Nat.beq 0 0 = true := rfl
 have e6 : Nat.ble 0 0 = true := rfl
 have a1' : heap.get id = some ⟨0, 0, sz, cells, bel, 0⟩ := a1
 refine ⟨⟨next, floor, hp⟩, fun k => ?_, ⟨_, s2, rfl, rfl, rfl, a5, a6, fun i z hz => ?_⟩, ⟨rfl, Nat.le_refl _, fun i _ hi => s3 i hi⟩⟩
 · simp only [store, hK_mk, a1', optK_some, blkK_mk, List.length_singleton, e5, e6, e1, e2, e3, e4, ifK_true]
   rw [t1, s1]
 · show tr.getN i = some z
   rw [List.getElem?_set] at hz
   split at hz
   · rename_i hij
     subst hij
     split at hz
     · cases hz
       exact t2 0 y rfl
     · cases hz
   · rename_i hij
     rw [t3 i (by simp; omega)]
     exact a7 i z hz
theorem alloc_own (el : Nat) (cs : List V) (h : H) (hl : cs.length < 2 ^ 37) (hf : B.val h.floor ≤ B.val h.next) : ∃ h', (∀ k, alloc el cs h k = k h.next h') ∧ Stay nowhere h h' ∧ Own h' h.next cs ∧ B.val h'.next = B.val h.next + 1 := by
 obtain ⟨h', a1, a2, a3, blk, b1, b2, b3, b4, b5, b6, b7⟩ := alloc_new el cs h (by omega)
 exact ⟨h', a1, a2, ⟨blk, b1, b3, b2, b6, by rw [a2.floor]; exact hf, by omega, b7⟩, a3⟩
theorem Stay.unfloor {p : B → Prop} {h h1 : H} (s : Stay p (reFloor h) h1) : Stay p h (unFloor h h1) := by
 obtain ⟨n, f, hp⟩ := h
 obtain ⟨n1, f1, hp1⟩ := h1
 exact ⟨rfl, s.next, s.get⟩
theorem ev_convR (cf : CallF) (t : F) (h : H) (k : V → H → Bool) (kd : IntKind) (x : O) : doConv kd x cf t h k = vIR (oV x t) (fun _ n => k (.i kd (kd.wrap n)) h) fun _ m r hi => ifK (Nat.ble hi (mxOf kd)) fun _ => k (.r kd m r hi) h := by simp only [doConv, oE_eq, wrapF_eq]
theorem ev_rem (cf : CallF) (t : F) (h : H) (k : V → H → Bool) (x y : O) : doRem x y cf t h k = vI (oV y t) fun kd' b => vIR (oV x t) (fun kd a => ifK (kdEq kd kd') fun _ => fRem kd a b fun v => k v h) fun kd m r _ => remR kd' b (fun v => k v h) kd m r := by simp only [doRem, oE_eq, oK_eq]
section
variable {P : Program} {S : Spec} {l : List CO} {t : F} {h : H} {K : F → H → Prop}
end
theorem Stay.fl {h h' : H} {p : B → Prop} (s : Stay p h h') (hf : B.val h.floor ≤ B.val h.next) : B.val h'.floor ≤ B.val h'.next := by rw [s.floor]; exact Nat.le_trans hf s.next
section
variable {P : Program} {S : Spec} {l : List CO} {t : F} {h : H} {K : F → H → Prop}
end
end Go.Ev

set_option linter.all false
namespace Go.Ev
open Go
section
variable {P : Program} {S : Spec} {l : List CO} {t : F} {h : H} {K : F → H → Prop}
end
theorem Stay.past' {p : B → Prop} {a b c : H} (x : Stay nowhere a b) (y : Stay p b c) (h : ∀ id, p id → B.val a.next ≤ B.val id) : Stay nowhere a c :=
 ⟨y.floor.trans x.floor, Nat.le_trans x.next y.next, fun id h1 _ => (y.get id (Nat.lt_of_lt_of_le h1 x.next) fun hp => absurd (h id hp) (Nat.not_le.2 h1)).trans (x.get id h1 fun h => h)⟩
def Il (h : H) (v : V) (xs : List Int) : Prop := Lst h v (xs.map (V.i .i64))
theorem Il.grow {h h' : H} {v : V} {xs : List Int} (a : Il h v xs) (s : Stay nowhere h h') : Il h' v xs := Lst.grow a s
theorem Il.idx {h0 : H} {v : V} {xs : List Int} {i : Nat} (a : Il h0 v xs) (hi : i < xs.length) (k : V → Bool) : idxV 1 v i k = k (.p (lid v) (lg v) (loff v + i) (lfin v)) := Lst.idx a (by simpa using hi) k
theorem Il.rd {h : H} {v : V} {xs : List Int} {i : Nat} (a : Il h v xs) (hi : i < xs.length) (k : V → Bool) : load1 h (lid v) (lg v) (loff v + i) (lfin v) k = k (.i .i64 (xs.getD i 0)) :=
 load_lst a (by simp [hi]) k
end Go.Ev

set_option linter.all false
namespace Go.Ev
open Go
theorem repL_one (z : V) : ∀ n, repL [z] n = List.replicate n z
 | 0 => rfl
 | n + 1 => by
   show z :: repL [z] n = _
   rw [repL_one z n, List.replicate_succ]
section
variable {P : Program} {S : Spec} {l : List CO} {t : F} {h : H} {K : F → H → Prop}
end
end Go.Ev

set_option linter.all false
namespace Go.Ev
open Go
def sv (l : List UInt8) : V := .s l.length (pk l)
theorem sv_nil : V.s 0 0 = sv [] := rfl
theorem vS_sv (l : List UInt8) (k : Nat → Nat → Bool) : vS (sv l) k = k l.length (pk l) := rfl
theorem natK_nn {z : Int} (h : 0 ≤ z) (k : Nat → Bool) : natK z k = k z.toNat := by
 obtain ⟨n, rfl⟩ := Int.eq_ofNat_of_zero_le h
 rfl
def bv (c : UInt8) : V := .i .u8 (c.toNat : Int)
theorem one_3 (u v w : V) : one [u, v, w] = .tu [u, v, w] := rfl
theorem res_3 (n m o : Nat) (t : F) (h : H) (k : List V → Bool) : resK [Rs.tmp (slOf n), Rs.tmp (slOf m), Rs.tmp (slOf o)] t h k = k [get n t, get m t, get o t] := by
 show forceV (sGet (slOf n) t) (fun v => forceV (sGet (slOf m) t) fun u => forceV (sGet (slOf o) t) fun w => k [v, u, w]) = _
 rw [forceV_eq, forceV_eq, forceV_eq]; rfl
section
variable (cf : CallF) (t : F) (h : H) (k : V → H → Bool) (o x y : O)
noncomputable def catV (a b : V) (k : V → Bool) : Bool := vS a fun la na => vS b fun lb nb => ifK (Nat.ble (Nat.add la lb) 1048576) fun _ => k (.s (Nat.add la lb) (Nat.add (Nat.mul na (Nat.pow 256 lb)) nb))
theorem ev_concat : doConcat x y cf t h k = catV (oV x t) (oV y t) fun v => k v h := by simp only [doConcat, oE_eq, fN_eq]; rfl
theorem catV_sv {a b : List UInt8} (hl : a.length + b.length ≤ 1048576) (k : V → Bool) : catV (sv a) (sv b) k = k (sv (a ++ b)) := by
 have h1 : Nat.ble (Nat.add a.length b.length) 1048576 = true := by rw [Nat.ble_eq]; exact hl
 unfold catV
 rw [vS_sv, vS_sv, h1, ifK_true]
 unfold sv
 rw [List.length_append, pk_append]; rfl
noncomputable def sixV (v : V) (i : Nat) (k : V → Bool) : Bool := vS v fun l n => ifK (Nat.ble (Nat.succ i) l) fun _ => k (.i .u8 (.ofNat (Nat.mod (Nat.div n (Nat.pow 256 (Nat.sub (Nat.sub l 1) i))) 256)))
theorem ev_sindex : doSIndex x y cf t h k = vI (oV y t) fun _ n => natK n fun n => sixV (oV x t) n fun v => k v h := by
 have no : ∀ u : V, (vI u fun _ n => natK n fun _ => false) = false := by
   intro u
   cases u <;> first | rfl | (rename_i kd n; cases n <;> rfl)
 simp only [doSIndex, oE_eq]
 generalize oV x t = v
 generalize oV y t = u
 have hn : ∀ w : V, (∀ k, vS w k = false) → (vI u fun _ n => natK n fun n => sixV w n fun p => k p h) = false := by
   intro w hw
   have : (fun (_ : IntKind) (n : Int) => natK n fun n => sixV w n fun p => k p h) = fun _ n => natK n fun _ => false := by
     funext _ n; congr 1; funext n; exact hw _
   rw [this]; exact no u
 cases v with
 | s l n => simp only [vS_s, fN_eq]; rfl
 | _ => rw [hn _ fun _ => rfl]; rfl
theorem sixV_sv {l : List UInt8} {i : Nat} (hi : i < l.length) (k : V → Bool) : sixV (sv l) i k = k (.i .u8 ((l.getD i 0).toNat : Int)) := by
 have h1 : Nat.ble (Nat.succ i) l.length = true := by rw [Nat.ble_eq]; exact hi
 unfold sixV
 rw [vS_sv, h1, ifK_true]
 have e : l.getD i 0 = l[i] := by simp [List.getD, hi]
 have := pk_get l hi
 rw [e, this]
 rfl
noncomputable def ssV (v : V) (a b : Nat) (k : V → Bool) : Bool := vS v fun l n => ifK (Nat.ble a b) fun _ => ifK (Nat.ble b l) fun _ => k (.s (Nat.sub b a) (Nat.mod (Nat.div n (Nat.pow 256 (Nat.sub l b))) (Nat.pow 256 (Nat.sub b a))))
noncomputable def ssaV (v : V) (a : Nat) (k : V → Bool) : Bool := vS v fun l n => ifK (Nat.ble a l) fun _ => k (.s (Nat.sub l a) (Nat.mod (Nat.div n (Nat.pow 256 (Nat.sub l l))) (Nat.pow 256 (Nat.sub l a))))
theorem no1 (u : V) : (vI u fun _ n => natK n fun _ => false) = false := by
 cases u <;> first | rfl | (rename_i kd n; cases n <;> rfl)
theorem ev_ss2 (a b : O) : doSSlice x (some a) (some b) cf t h k = vI (oV a t) fun _ p => natK p fun p => vI (oV b t) fun _ q => natK q fun q => ssV (oV x t) p q fun v => k v h := by
 simp only [doSSlice, oE_eq]
 have hb : ∀ (o : O) (d : Nat) (k : Nat → Bool), boundK (some o) d t k = vI (oV o t) fun _ n => natK n k := fun o d k => by show oE o t _ = _; rw [oE_eq]
 simp only [hb, fN_eq]
 generalize oV x t = v
 have hn : ∀ w : V, (∀ k, vS w k = false) → (vI (oV a t) fun _ p => natK p fun p => vI (oV b t) fun _ q => natK q fun q => ssV w p q fun v => k v h) = false := by
   intro w hw
   have e2 : ∀ p q, ssV w p q (fun v => k v h) = false := fun p q => hw _
   simp only [e2, no1]
 cases v with
 | s l n => simp only [vS_s]; rfl
 | _ => rw [hn _ fun _ => rfl]; rfl
theorem ev_ss1 (b : O) : doSSlice x none (some b) cf t h k = vI (oV b t) fun _ q => natK q fun q => ssV (oV x t) 0 q fun v => k v h := by
 simp only [doSSlice, oE_eq]
 have hb : ∀ (o : O) (d : Nat) (k : Nat → Bool), boundK (some o) d t k = vI (oV o t) fun _ n => natK n k := fun o d k => by show oE o t _ = _; rw [oE_eq]
 have h0 : ∀ (d : Nat) (k : Nat → Bool), boundK none d t k = k d := fun _ _ => rfl
 simp only [hb, h0, fN_eq]
 generalize oV x t = v
 have hn : ∀ w : V, (∀ k, vS w k = false) → (vI (oV b t) fun _ q => natK q fun q => ssV w 0 q fun v => k v h) = false := by
   intro w hw
   have e2 : ∀ p q, ssV w p q (fun v => k v h) = false := fun p q => hw _
   simp only [e2, no1]
 cases v with
 | s l n => simp only [vS_s]; rfl
 | _ => rw [hn _ fun _ => rfl]; rfl
theorem ev_ssa (a : O) : doSSlice x (some a) none cf t h k = vI (oV a t) fun _ p => natK p fun p => ssaV (oV x t) p fun v => k v h := by
 simp only [doSSlice, oE_eq]
 have hb : ∀ (o : O) (d : Nat) (k : Nat → Bool), boundK (some o) d t k = vI (oV o t) fun _ n => natK n k := fun o d k => by show oE o t _ = _; rw [oE_eq]
 have h0 : ∀ (d : Nat) (k : Nat → Bool), boundK none d t k = k d := fun _ _ => rfl
 simp only [hb, h0, fN_eq]
 generalize oV x t = v
 have hn : ∀ w : V, (∀ k, vS w k = false) → (vI (oV a t) fun _ q => natK q fun q => ssaV w q fun v => k v h) = false := by
   intro w hw
   have e2 : ∀ q, ssaV w q (fun v => k v h) = false := fun q => hw _
   simp only [e2, no1]
 cases v with
 | s l n =>
   simp only [vS_s]
   have : ∀ p, ssaV (.s l n) p (fun v => k v h) = ifK (Nat.ble p l) fun _ => k (.s (Nat.sub l p) (Nat.mod (Nat.div n (Nat.pow 256 (Nat.sub l l))) (Nat.pow 256 (Nat.sub l p)))) h := fun _ => rfl
   simp only [this]
   have e : ∀ p, (ifK (Nat.ble p l) fun _ => ifK (Nat.ble l l) fun _ => k (.s (Nat.sub l p) (Nat.mod (Nat.div n (Nat.pow 256 (Nat.sub l l))) (Nat.pow 256 (Nat.sub l p)))) h) = ifK (Nat.ble p l) fun _ => k (.s (Nat.sub l p) (Nat.mod (Nat.div n (Nat.pow 256 (Nat.sub l l))) (Nat.pow 256 (Nat.sub l p)))) h := fun p => by
     have : Nat.ble l l = true := by rw [Nat.ble_eq]; exact Nat.le_refl _
     rw [this]; rfl
   simp only [e]
 | _ => rw [hn _ fun _ => rfl]; rfl
theorem ssV_sv {l : List UInt8} {a b : Nat} (h1 : a ≤ b) (h2 : b ≤ l.length) (k : V → Bool) : ssV (sv l) a b k = k (sv ((l.take b).drop a)) := by
 have e1 : Nat.ble a b = true := by rw [Nat.ble_eq]; exact h1
 have e2 : Nat.ble b l.length = true := by rw [Nat.ble_eq]; exact h2
 unfold ssV
 rw [vS_sv, e1, ifK_true, e2, ifK_true]
 unfold sv
 rw [pk_part l h1 h2, List.length_drop, List.length_take, Nat.min_eq_left h2]; rfl
theorem ssaV_sv {l : List UInt8} {a : Nat} (h1 : a ≤ l.length) (k : V → Bool) : ssaV (sv l) a k = k (sv (l.drop a)) := by
 have := ssV_sv h1 (Nat.le_refl _) k
 rw [List.take_length] at this
 rw [← this]
 have e1 : Nat.ble a l.length = true := by rw [Nat.ble_eq]; exact h1
 have e2 : Nat.ble l.length l.length = true := by rw [Nat.ble_eq]; exact Nat.le_refl _
 unfold ssV ssaV
 rw [vS_sv, vS_sv, e1, ifK_true, ifK_true, e2, ifK_true]
noncomputable def scV (f : Nat → Nat → Nat → Nat → Bool) (a b : V) (k : V → Bool) : Bool := vS a fun la na => vS b fun lb nb => k (.b (f la na lb nb))
theorem ev_scmp (f : Nat → Nat → Nat → Nat → Bool) : doSCmp f x y cf t h k = scV f (oV x t) (oV y t) fun v => k v h := by simp only [doSCmp, oE_eq, fB_eq]; rfl
theorem eqS_sv (a b : List UInt8) : eqS a.length (pk a) b.length (pk b) = decide (a = b) := by
 have e : ∀ {x y : Bool}, (x = true ↔ y = true) → x = y := by intro x y h; cases x <;> cases y <;> simp_all
 apply e
 rw [decide_eq_true_iff]
 have := pk_eq a b
 unfold eqS
 rw [← this]
 exact beq_iff_eq
noncomputable def cmV (a b : V) (k : V → Bool) : Bool := vS a fun la na => vS b fun lb nb => k (.i .i64 (cmpI (eqS la na lb nb) (ltS la na lb nb)))
theorem ev_cmpS : doCmpS x y cf t h k = cmV (oV x t) (oV y t) fun v => k v h := by simp only [doCmpS, oE_eq, fC_eq]; rfl
theorem cmV_sv (a b : List UInt8) (k : V → Bool) : cmV (sv a) (sv b) k = k (.i .i64 (cmpI (decide (a = b)) (Op.bytesLess a b))) := by
 unfold cmV; rw [vS_sv, vS_sv, eqS_sv, bytesLess_pk]
theorem scV_eq (a b : List UInt8) (k : V → Bool) : scV eqS (sv a) (sv b) k = k (.b (decide (a = b))) := by
 unfold scV; rw [vS_sv, vS_sv, eqS_sv]
theorem scV_ne (a b : List UInt8) (k : V → Bool) : scV (fun a b c d => !eqS a b c d) (sv a) (sv b) k = k (.b (!decide (a = b))) := by
 unfold scV; rw [vS_sv, vS_sv]; simp only [eqS_sv]
theorem scV_lt (a b : List UInt8) (k : V → Bool) : scV ltS (sv a) (sv b) k = k (.b (Op.bytesLess a b)) := by
 unfold scV; rw [vS_sv, vS_sv, bytesLess_pk]
theorem ev_shift (f : IntKind → Int → Nat → (V → Bool) → Bool) : doShift f x y cf t h k = vI (oV x t) fun kd a => vI (oV y t) fun _ b => natK b fun n => f kd a (min n kd.bits) fun v => k v h := by simp only [doShift, oE_eq]
theorem f_shl (kd : IntKind) (a : Int) (n : Nat) (k : V → Bool) : shlF kd a n k = k (.i kd (kd.wrap (a * ((2 ^ n : Nat) : Int)))) := wrapF_eq _ _ _
theorem ev_idxArr (len size : Nat) : doIndexAddrArr len size o x cf t h k = vP (oV o t) fun id g off fin => vI (oV x t) fun _ n => natK n fun n => ifK (Nat.ble (Nat.succ n) len) fun _ => k (.p id g (off + n * size) fin) h := by
 simp only [doIndexAddrArr, oE_eq, fN_eq]; rfl
theorem arrIx {i n : Nat} (h : i < n) (k : Unit → Bool) : ifK (Nat.ble (Nat.succ i) n) k = k () := by
 have : Nat.ble (Nat.succ i) n = true := by rw [Nat.ble_eq]; exact h
 rw [this]; rfl
theorem ev_sliceArr (n size : Nat) (a : O) : doSliceArr n size x (some a) none cf t h k = vP (oV x t) fun id g off fin => vI (oV a t) fun _ p => natK p fun p => ifK (Nat.ble p n) fun _ => sliceC size id g off n fin n p n fun v => k v h := by
 simp only [doSliceArr, oE_eq]
 have hb : ∀ (o : O) (d : Nat) (k : Nat → Bool), boundK (some o) d t k = vI (oV o t) fun _ n => natK n k := fun o d k => by show oE o t _ = _; rw [oE_eq]
 have h0 : ∀ (d : Nat) (k : Nat → Bool), boundK none d t k = k d := fun _ _ => rfl
 simp only [hb, h0]
theorem sliceC_mid {size : Nat} {id : B} {g off len fin c a b : Nat} (hcM : c < 18446744073709551616) (h1 : b ≤ c) (h2 : a < c) (k : V → Bool) : sliceC size id g off len fin c a b k = k (.l id g (off + a * size) (b - a) fin (some (c - a))) := by
 have e1 : Nat.ble b c = true := by rw [Nat.ble_eq]; exact h1
 have e2 : Nat.beq a c = false := by
   cases hx : Nat.beq a c with
   | false => rfl
   | true => have := Nat.eq_of_beq_eq_true hx; omega
 have e0 : Nat.ble (Nat.succ c) 18446744073709551616 = true := by rw [Nat.ble_eq]; exact hcM
 unfold sliceC
 rw [e0, ifK_true, e1, ifK_true, e2]
 show fN (Nat.sub b a) _ = _
 rw [fN_eq, fN_eq, fN_eq]; rfl
theorem ifBle {a b : Nat} (h : a ≤ b) (k : Unit → Bool) : ifK (Nat.ble a b) k = k () := by
 have : Nat.ble a b = true := by rw [Nat.ble_eq]; exact h
 rw [this]; rfl
noncomputable def b2sV (h : H) (v : V) (k : V → Bool) : Bool := vL v (fun _ => k (.s 0 0)) fun id g off len fin _ => loadZ len len h id g off fin fun vs => packK vs 0 fun n => k (.s len n)
theorem ev_b2s : doB2S x cf t h k = b2sV h (oV x t) fun v => k v h := by simp only [doB2S, oE_eq]; rfl
theorem pack_bv : ∀ (l : List UInt8) (acc : Nat) (k : Nat → Bool), packK (l.map bv) acc k = k (acc * 256 ^ l.length + pk l)
 | [], acc, k => by show fN acc k = _; rw [fN_eq]; simp [pk]
 | c :: l, acc, k => by
   show byteK (bv c) (fun c => fN (Nat.add (Nat.mul acc 256) c) fun acc => packK (l.map bv) acc k) = _
   have hb : ∀ k', byteK (bv c) k' = k' c.toNat := fun k' => by
     have h2 : Nat.ble c.toNat 255 = true := by rw [Nat.ble_eq]; have := c.toNat_lt; omega
     unfold byteK bv
     rw [vI_i, kdEq_self, ifK_true]
     show natK (Int.ofNat c.toNat) _ = _
     rw [natK_ofNat, h2, ifK_true]
   rw [hb, fN_eq, pack_bv l]
   congr 1
   show (acc * 256 + c.toNat) * 256 ^ l.length + pk l = acc * 256 ^ (l.length + 1) + (c.toNat * 256 ^ l.length + pk l)
   rw [Nat.add_mul, Nat.pow_succ, Nat.mul_assoc, Nat.mul_comm 256, Nat.add_assoc]
end
section
variable {P : Program} {S : Spec} {l : List CO} {t : F} {h : H} {K : F → H → Prop}
end
end Go.Ev

set_option linter.all false
namespace Go.Ev
open Go Go.RowKit Go.WideShapes Go.ChangeShapes Go.ChangeAt
section
variable {H : Type} {enc : TypeId × Value → H}
theorem trodAll_below {P : Program} (hl : laidOutB P = true) {W W' : World} (hb : Below W.heap.size W W') (sp : Nat → Bool) : ∀ (ts : List TypeId) (vs : List Value) (ds : List (DataW H)) (ps : List MemPlace),
   ts.all (fun t => P.readableRec t && decide (t < P.types.size)) = true → DataW.TrodAll enc P W 0 (fun _ => true) true ts vs ds ps → (∀ x ∈ ps, x.block < W.heap.size) → (∀ x ∈ ps, sp x.block = true) → DataW.TrodAll enc P W' 0 sp true ts vs ds ps
 | [], [], [], ps, _, h, _, _ => h
 | t :: ts, v :: vs, d :: ds, ps, ht, h, hlt, hsp => by
   obtain ⟨p, q, h1, h2, rfl⟩ := h
   simp only [List.all_cons, Bool.and_eq_true] at ht
   refine ⟨p, q, ?_, trodAll_below hl hb sp ts vs ds q (by simpa using ht.2) h2 (fun x hx => hlt x (by simp [hx])) (fun x hx => hsp x (by simp [hx])), rfl⟩
   exact WideElems.Trod_stays hl ht.1.1 (of_decide_eq_true ht.1.2) h1 (fun x hx => hb.same (hlt x (by simp [hx]))) (fun x hx => hsp x (by simp [hx]))
 | [], [], _ :: _, _, _, h, _, _ => h.elim
 | [], _ :: _, _, _, _, h, _, _ => by cases h
 | _ :: _, [], _, _, _, h, _, _ => by cases h
 | _ :: _, _ :: _, [], _, _, h, _, _ => by cases h
theorem law_lifted {C : Checked} {os : Os} {f : FuncId} {fn : Func} {s : ChangeSpec} {conds : List PathCond} {tb : TypeId}
   (own : ownKnob C.prog.godebug = none) (started : os.Started) (noInit : C.prog.inits.idxOf? f = none) (hfn : C.prog.funcs[f]? = some fn)
   (witness : ∃ (w : World) (tape : Tape) (i : Input), w.os = os ∧ (w.forCall tape i).Shaped C.prog ∧ i.vars = [] ∧ Input.okWide C.prog (w.forCall tape i) .any w.heap.size f i ∧
     s.pre6 enc C.prog fn conds false (w.forCall tape i).memory i.args ∧ ({} : Assume).holds C.prog (lone (Frame.enter C.prog f i.args .normal) [] (w.forCall tape i)))
   (hv : s.vars = []) (hs : ∀ ds : List (DataW H), ds.length = fn.params.toList.length → s.fn H ds = { results := [.lit (.bool true)], args := ds })
   (hl : laidOutB C.prog = true) (hr : fn.params.toList.all (fun t => C.prog.readableRec t && decide (t < C.prog.types.size)) = true)
   (hres : fn.resultTypes = #[tb]) (hb : C.prog.underlying tb = some .bool)
   (run : ∀ (W : World) (base : Nat) (args : Array Value) (ds : List (DataW H)) (p : List MemPlace), (∀ (j : Nat) t v, fn.params[j]? = some t → args[j]? = some v → Value.okWide C.prog W .any base t v) → W.ShapedOpen C.prog → DataW.TrodAll enc C.prog W 0 (fun _ => true) true fn.params.toList args.toList ds p →
     Calls C.prog f args W fun e w' => e = .returned (.bool true) ∧ Below W.heap.size W w') :
   ReturnsInHanded {} C os f .any (s.pre6 enc C.prog fn conds false) (s.post enc C.prog fn false true false false) := by
 refine returnsInHanded_of_change_shaped own started noInit hfn witness ?_
 intro W base args ds gs before hval0 hW hcnd _ hopen _
 have hval : ∀ (j : Nat) t v, fn.params[j]? = some t → args[j]? = some v → Value.okWide C.prog W .any base t v := hval0
 have hW' := hW
 obtain ⟨p, q, hA, hV, rfl, hfz, hnd⟩ := hW
 rw [hv] at hV
 obtain ⟨rfl, rfl⟩ := trodVars_none hV
 have hlen : ∀ (ts : List TypeId) (vs : List Value) (ds : List (DataW H)) (ps : List MemPlace), DataW.TrodAll enc C.prog W 0 (fun _ => true) true ts vs ds ps → ds.length = ts.length := by
   intro ts
   induction ts with
   | nil => intro vs ds ps h; cases vs <;> cases ds <;> first | rfl | cases h
   | cons t ts ih =>
     intro vs ds ps h
     cases vs with
     | nil => cases h
     | cons v vs =>
       cases ds with
       | nil => cases h
       | cons d ds => obtain ⟨p, q, h1, h2, rfl⟩ := h; simp [ih vs ds q h2]
 have hd := hlen _ _ _ _ hA
 have hspec : s.fn H (ds ++ []) = { results := [.lit (.bool true)], args := ds } := by rw [List.append_nil]; exact hs ds hd
 refine (run W base args ds p hval hopen hA).mono fun e W' ⟨he, hg⟩ => ?_
 subst he
 simp only [List.append_nil] at hW'
 have hlt : ∀ x ∈ p, x.block < W.heap.size := fun x hx => by simpa using hW'.lt x (by simpa using hx)
 refine ⟨_, rfl, post_kept (pa := p) (pv := []) hg (by simpa using hW') (fun b sp hd => ?_) (fun sp hsp => ?_) (fun sp hsp => ?_) rfl (ok_one hres rfl (okWide_bool_mk hb _))⟩
 · rw [hspec, hres]
   exact trodAll_cons_mk (shut_bool hb _) trodAll_mk0
 · rw [hspec]
   exact trodAll_below hl hg sp _ _ _ _ hr hA hlt (fun x hx => hsp x (by simpa using hx))
 · rw [hspec, hv]; rfl
end
theorem calls_true {P : Program} {f : FuncId} {W : World} {h : H} (s : Start W h) {vs : List V} {args : Array Value} (ha : LRel (emb0 W) vs args.toList) (k : FnOk P f vs h fun y _ => y = .b true) : Calls P f args W fun e w' => e = .returned (.bool true) ∧ Below W.heap.size W w' := by
 obtain ⟨y, h', ⟨_, _, r⟩, rfl⟩ := k
 have := (r (emb0 W) W W args.toList ha s.rel).2
 rw [show args.toList.toArray = args by simp] at this
 refine this.mono fun e w' he => ?_
 obtain ⟨x, rfl, ρ', _, x2, x3⟩ := he
 have x2' : x = .bool true := x2
 rw [x2']
 exact ⟨rfl, x3.same.below⟩
end Go.Ev

set_option linter.all false
namespace Go.Ev
open Go Go.RowKit Go.WideShapes Go.ChangeShapes Go.ChangeAt Go.Deep
theorem cell_add {W : World} {a : Addr} {i : Nat} {x : Value} (h : W.cell? (a.add i) = some x) : W.cell? ⟨a.block, a.off + i, none⟩ = some x := by
 have hsp := World.cell?_spot h
 have e : a.add i = ⟨a.block, a.off + i, none⟩ := by
   unfold Addr.add at hsp ⊢
   split
   · rename_i hi
     rw [if_pos hi] at hsp
     subst hi
     obtain ⟨b, o, sp⟩ := a
     have : sp = none := hsp
     rw [this]; rfl
   · rfl
 rw [← e]; exact h
section
variable {H' : Type} {enc : TypeId × Value → H'} {P : Program}
theorem maxLen_lt : maxLen < 18446744073709551616 := by decide
theorem lst_of {W : World} {h : H} (s : Start W h) (h0 : 0 < W.heap.size) {t e : TypeId} {fuel : Nat} {cs : List Value} {x : DataW H' × List MemPlace} (ht : P.underlying t = some (.slice e)) (hc : P.cellsOf e = 1)
   (hd : DataW.trod enc P W 0 (fun _ => true) true fuel t cs = some x) : ∃ (sv : Value) (xs : List Value), cs = [sv] ∧ Lst h (absV W sv) (xs.map (absV W)) ∧ xs.length ≤ maxLen ∧
     ∀ (i : Nat) (y : Value), xs[i]? = some y → ∃ n d p, DataW.trod enc P W 0 (fun _ => true) true n e [y] = some (d, p) := by
 rcases open_slice1 ht hc hd with ⟨rfl, _⟩ | ⟨a, len, cap, m, n, V, D, Pl, rfl, hb, hl, hm, hmm, _, hx⟩
 · exact ⟨_, [], rfl, .inl ⟨rfl, rfl⟩, Nat.zero_le _, fun i y hy => by simp at hy⟩
 · simp only [if_true] at hmm
   have hget : ∀ i y, ((List.range len).map V)[i]? = some y → i < len ∧ y = V i := by
     intro i y hy
     have hi : i < len := by have := (List.getElem?_eq_some_iff.1 hy).1; simpa using this
     simp [hi] at hy
     exact ⟨hi, hy.symm⟩
   refine ⟨_, (List.range len).map V, rfl, ?_, by simp; omega, fun i y hy => ?_⟩
   · refine s.lst h0 (fun hne => ?_) hl (Nat.lt_of_le_of_lt hm maxLen_lt) _ (by simp) fun i y hy => ?_
     · have := World.cell?_spot (hx 0 (by omega)).1
       unfold Addr.add at this
       simpa using this
     · obtain ⟨hi, rfl⟩ := hget i y hy
       exact cell_add (hx i (by omega)).1
   · obtain ⟨hi, rfl⟩ := hget i y hy
     exact ⟨_, _, _, (hx i (by omega)).2⟩
end
end Go.Ev

set_option linter.all false
namespace Go.Ev
open Go Go.RowKit Go.WideShapes Go.ChangeShapes Go.ChangeAt Go.Deep
theorem absV_str (W : World) (s : ByteArray) : absV W (.string s) = sv s.data.toList := by
 unfold absV sv
 simp
theorem maxLen_le {n : Nat} (h : n ≤ maxLen) : n ≤ 9223372036854775807 := by unfold maxLen at h; omega
section
variable {H' : Type} {enc : TypeId × Value → H'} {P : Program}
def Kl (h : H) (kd : IntKind) (v : V) (L : List Int) : Prop := Lst h v (L.map (V.i kd))
theorem lk_of {W : World} {h : H} {kd : IntKind} (s : Start W h) (h0 : 0 < W.heap.size) {t e : TypeId} {fuel : Nat} {cs : List Value} {x : DataW H' × List MemPlace} (ht : P.underlying t = some (.slice e)) (hc : P.cellsOf e = 1) (he : P.underlying e = some (.int kd))
   (hd : DataW.trod enc P W 0 (fun _ => true) true fuel t cs = some x) : ∃ sv L, cs = [sv] ∧ Kl h kd (absV W sv) L ∧ L.length ≤ 9223372036854775807 ∧ ∀ n ∈ L, (Lit.int kd n).wf = true := by
 obtain ⟨sv, xs, rfl, l1, l2, l3⟩ := lst_of s h0 ht hc hd
 have hb : ∀ y ∈ xs, ∃ n : Int, y = .int kd n ∧ (Lit.int kd n).wf = true := by
   intro y hy
   obtain ⟨i, hi⟩ := List.mem_iff_getElem?.1 hy
   obtain ⟨n, d, p, hdy⟩ := l3 i y hi
   obtain ⟨b, hb, _, hs⟩ := DataW.trod_int he hdy
   exact ⟨b, by simpa using hb, hs⟩
 have hR : ∃ R : List Int, xs = R.map (Value.int kd) ∧ ∀ n ∈ R, (Lit.int kd n).wf = true := by
   clear l1 l2 l3 hd
   induction xs with
   | nil => exact ⟨[], rfl, fun b hb => by cases hb⟩
   | cons y ys ih =>
     obtain ⟨b, rfl, hs⟩ := hb y (by simp)
     obtain ⟨R, rfl, hR⟩ := ih fun z hz => hb z (by simp [hz])
     exact ⟨b :: R, rfl, fun c hc => by
       rcases List.mem_cons.1 hc with rfl | hc
       · exact hs
       · exact hR c hc⟩
 obtain ⟨R, rfl, hR⟩ := hR
 refine ⟨sv, R, rfl, ?_, maxLen_le (by simpa using l2), hR⟩
 unfold Kl
 have : (R.map (Value.int kd)).map (absV W) = R.map (V.i kd) := by simp [absV]
 rwa [this] at l1
end
end Go.Ev

set_option linter.all false
namespace Go.Ev
open Go
def RunRel (P : Program) (r : CR) (t : F) (h : H) (v : V) (h' : H) : Prop := ∃ cf, CfOk P cf ∧ ∀ k, runK r cf t h k = k v h'
def OpRel (P : Program) (o : CO) (t : F) (h : H) (t1 : F) (h1 : H) : Prop := match o with
 | .mk g d _ r => ∃ b, (∀ k, guardK g t k = k b) ∧ ((b = true ∧ ∃ v, RunRel P r t h v h1 ∧ ∀ k, putD d v t k = k t1) ∨ (b = false ∧ h1 = h ∧ ∀ k, putD d (.tu []) t k = k t1))
def OpsRel (P : Program) : List CO → F → H → F → H → Prop
 | [], t, h, t', h' => t' = t ∧ h' = h
 | o :: l, t, h, t', h' => ∃ t1 h1, OpRel P o t h t1 h1 ∧ OpsRel P l t1 h1 t' h'
def DrRel (P : Program) (o : CO) (t : F) (h : H) (t1 : F) (h1 : H) : Prop := match o with
 | .mk g d true r => OpRel P (.mk g d true r) t h t1 h1
 | .mk g d false r => ∃ b, (∀ k, guardK g t k = k b) ∧ ((b = true ∧ ∃ v h2, RunRel P r t (reFloor h) v h2 ∧ h1 = unFloor h h2 ∧ ∀ k, putD d v t k = k t1) ∨ (b = false ∧ h1 = h ∧ ∀ k, putD d (.tu []) t k = k t1))
def DrsRel (P : Program) : List CO → F → H → F → H → Prop
 | [], t, h, t', h' => t' = t ∧ h' = h
 | o :: l, t, h, t', h' => ∃ t1 h1, DrRel P o t h t1 h1 ∧ DrsRel P l t1 h1 t' h'
theorem cfSome (P : Program) : CfOk P (cfS P fun _ _ _ _ _ => True) := cfS_ok P _
theorem opRel_run {P : Program} {o : CO} {t : F} {h : H} {t1 : F} {h1 : H} (a : OpRel P o t h t1 h1) : ∃ cf, CfOk P cf ∧ ∀ (ih : F → H → (F → H → Bool) → Bool) k, opK o cf ih t h k = ih t1 h1 k := by
 obtain ⟨g, d, bar, r⟩ := o
 obtain ⟨b, g1, g2⟩ := a
 rcases g2 with ⟨rfl, v, ⟨cf, c1, c2⟩, p⟩ | ⟨rfl, rfl, p⟩
 · refine ⟨cf, c1, fun ih k => ?_⟩
   show guardK g t (fun b => opGo b r d cf ih t h k) = _
   rw [g1]
   show runK r cf t h (fun v h => putD d v t fun t => ih t h k) = _
   rw [c2, p]
 · refine ⟨_, cfSome P, fun ih k => ?_⟩
   show guardK g t (fun b => opGo b r d _ ih t h1 k) = _
   rw [g1]
   show putD d (.tu []) t (fun t => ih t h1 k) = _
   rw [p]
theorem drRel_run {P : Program} {o : CO} {t : F} {h : H} {t1 : F} {h1 : H} (a : DrRel P o t h t1 h1) : ∃ cf, CfOk P cf ∧ ∀ (ih : F → H → (F → H → Bool) → Bool) k, drK o cf ih t h k = ih t1 h1 k := by
 obtain ⟨g, d, bar, r⟩ := o
 cases bar with
 | true =>
   obtain ⟨b, g1, g2⟩ := a
   rcases g2 with ⟨rfl, v, ⟨cf, c1, c2⟩, p⟩ | ⟨rfl, rfl, p⟩
   · refine ⟨cf, c1, fun ih k => ?_⟩
     show guardK g t (fun b => drGo b true r d cf ih t h k) = _
     rw [g1]
     show runK r cf t h (fun v h => putD d v t fun t => ih t h k) = _
     rw [c2, p]
   · refine ⟨_, cfSome P, fun ih k => ?_⟩
     show guardK g t (fun b => drGo b true r d _ ih t h1 k) = _
     rw [g1]
     show putD d (.tu []) t (fun t => ih t h1 k) = _
     rw [p]
 | false =>
   obtain ⟨b, g1, g2⟩ := a
   rcases g2 with ⟨rfl, v, h2, ⟨cf, c1, c2⟩, rfl, p⟩ | ⟨rfl, rfl, p⟩
   · refine ⟨cf, c1, fun ih k => ?_⟩
     show guardK g t (fun b => drGo b false r d cf ih t h k) = _
     rw [g1]
     show runK r cf t (reFloor h) (fun v h2 => putD d v t fun t => ih t (unFloor h h2) k) = _
     rw [c2, p]
   · refine ⟨_, cfSome P, fun ih k => ?_⟩
     show guardK g t (fun b => drGo b false r d _ ih t h1 k) = _
     rw [g1]
     show putD d (.tu []) t (fun t => ih t h1 k) = _
     rw [p]
theorem same_of {t1 t2 : F} {h1 h2 : H} (e : ∀ k : F → H → Bool, k t1 h1 = k t2 h2) : t2 = t1 ∧ h2 = h1 := by
 have := e fun t h => @decide (t = t1 ∧ h = h1) (Classical.propDecidable _)
 simp at this
 exact this
theorem opsRel_ok {P : Program} {nt : Nat} {ops : Array Oper} (bars : Nat → Bool) : ∀ (l : List Oper) (n : Nat), ops.toList.drop n = l → ∀ (t : F) (h : H) (t' : F) (h' : H),
   OpsRel P (compOpsWith bars P nt ops.toList (compOp P) n l) t h t' h' → KeepF h h' ∧ B.val h.next ≤ B.val h'.next ∧
     ∀ ρ a w w0 (Q : Exit → Act → World → Prop), ARel ρ nt t a → HRel ρ h w w0 → (∀ ρ' a' w', Ext h.floor ρ ρ' → ARel ρ' nt t' a' → HRel ρ' h' w' w0 → Q .normal a' w') →
       wpOps P ops Q (List.range' n l.length) a w := by
 intro l
 induction l with
 | nil =>
   intro n hl t h t' h' hk
   obtain ⟨rfl, rfl⟩ := hk
   exact ⟨KeepF.refl _, Nat.le_refl _, fun ρ a w w0 Q A R hq => hq ρ a w (Ext.refl _ ρ) A R⟩
 | cons o l ih =>
   intro n hl t h t' h' hk
   obtain ⟨t1, h1, hk1, hk2⟩ := hk
   obtain ⟨cf, hcf, e⟩ := opRel_run hk1
   obtain ⟨t1', h1', a1, a2, a3, a4⟩ := op_ok hcf (ops := ops) (ih := fun t h k => k t h) (k := fun _ _ => true) (e _ _)
   obtain ⟨rfl, rfl⟩ := same_of (fun k => (e (fun t h k => k t h) k).symm.trans (a1 k))
   have hl' : ops.toList.drop (n + 1) = l := by rw [← List.drop_drop, hl]; rfl
   obtain ⟨b2, b3, b4⟩ := ih (n + 1) hl' _ _ _ _ hk2
   refine ⟨KeepF.trans a2 a3 b2, Nat.le_trans a3 b3, fun ρ a w w0 Q A R hq => ?_⟩
   have hn : ops[n]? = some o := by
     have : ops.toList[n]? = some o := by
       have := congrArg (fun l => l[0]?) hl
       simpa using this
     simpa using this
   rw [List.length_cons, List.range'_succ, wpOps_cons]
   unfold wpOp
   simp only [hn]
   have := a4 ρ a w w0 (wpOps P ops Q (List.range' (n + 1) l.length)) Q A R fun ρ' a' w' l1 A' R' => b4 ρ' a' w' w0 Q A' R' fun ρ'' a'' w'' l2 A'' R'' => hq ρ'' a'' w'' (Ext.trans l1 (by rw [← a2.1]; exact l2)) A'' R''
   split
   · rename_i hw; simp only [hw, if_true] at this; exact .inl this
   · rename_i hw; simp only [hw] at this; exact this
theorem drs_trace {P : Program} {nt : Nat} {ops : Array Oper} (bars : Nat → Bool) : ∀ (l : List Oper) (n : Nat), ops.toList.drop n = l → ∀ (t : F) (h : H) (t' : F) (h' : H),
   DrsRel P (compOpsWith bars P nt ops.toList (compOp P) n l) t h t' h' →
   ∃ (Ts : Nat → F) (Hs : Nat → H), Ts n = t ∧ Hs n = h ∧ (Ts (n + l.length) = t' ∧ Hs (n + l.length) = h') ∧
     ∀ (i : Nat) o, n ≤ i → ops[i]? = some o → StepOk P nt ops i o (bars i) (Ts i) (Ts (i + 1)) (Hs i) (Hs (i + 1)) := by
 intro l
 induction l with
 | nil =>
   intro n hl t h t' h' hk
   obtain ⟨rfl, rfl⟩ := hk
   refine ⟨fun _ => t', fun _ => h', rfl, rfl, ⟨rfl, rfl⟩, fun i o hni hi => ?_⟩
   have : ops.toList[i]? = none := by
     rw [List.getElem?_eq_none]
     have := congrArg List.length hl
     simp at this
     simp; omega
   rw [show ops[i]? = ops.toList[i]? by simp, this] at hi
   cases hi
 | cons o l ih =>
   intro n hl t h t' h' hk
   have hn : ops[n]? = some o := by
     have : ops.toList[n]? = some o := by
       have := congrArg (fun l => l[0]?) hl
       simpa using this
     simpa using this
   obtain ⟨t1, h1, hk1, hk2⟩ := hk
   obtain ⟨cf, hcf, e⟩ := drRel_run hk1
   obtain ⟨t1', h1', a1, a2⟩ := dr_step hcf hn (ih := fun t h k => k t h) (k := fun _ _ => true) (e _ _)
   obtain ⟨rfl, rfl⟩ := same_of (fun k => (e (fun t h k => k t h) k).symm.trans (a1 k))
   have hl' : ops.toList.drop (n + 1) = l := by rw [← List.drop_drop, hl]; rfl
   obtain ⟨Ts, Hs, b1, b2, b3, b4⟩ := ih (n + 1) hl' _ _ _ _ hk2
   refine ⟨fun i => if i = n then t else Ts i, fun i => if i = n then h else Hs i, by simp, by simp, ?_, fun i oi hni hi => ?_⟩
   · have e1 : n + (o :: l).length = n + 1 + l.length := by simp; omega
     rw [e1]
     simp only [show ¬ n + 1 + l.length = n by omega, if_false]
     exact b3
   · by_cases hin : i = n
     · subst hin
       rw [hn] at hi
       cases hi
       simp only [if_true, show ¬ i + 1 = i by omega, if_false, b1, b2]
       exact a2
     · simp only [hin, if_false, show ¬ i + 1 = n by omega]
       exact b4 i oi (by omega) hi
theorem drsRel_ok {P : Program} (hm : P.follows .mixedOrders = true) {nt : Nat} {ops : Array Oper} (hd : drawsOk ops.toList = true) {t : F} {h : H} {t' : F} {h' : H}
   (hk : DrsRel P (compOpsWith (barAt P ops.toList (befs ops.toList [])) P nt ops.toList (compOp P) 0 ops.toList) t h t' h') :
   KeepF h h' ∧ B.val h.next ≤ B.val h'.next ∧
     ∀ ρ a w w0 (id : Nat) (Q : Exit → Act → World → Prop), ARel ρ nt t a → HRel ρ h w w0 → (∀ ρ' a' w', Ext h.floor ρ ρ' → ARel ρ' nt t' a' → HRel ρ' h' w' w0 → Q .normal a' w') → (Code.region id ops true).wp P Q a w := by
 obtain ⟨Ts, Hs, b1, b2, b3, b4⟩ := drs_trace _ ops.toList 0 (by simp) t h t' h' hk
 have hst : ∀ (i : Nat) o, ops[i]? = some o → StepOk P nt ops i o (barAt P ops.toList (befs ops.toList []) i) (Ts i) (Ts (i + 1)) (Hs i) (Hs (i + 1)) := fun i o hi => b4 i o (Nat.zero_le _) hi
 have hlen : 0 + ops.toList.length = ops.size := by simp
 rw [hlen] at b3
 obtain ⟨c1, c2⟩ := b3
 refine ⟨by rw [← b2, ← c2]; exact keep_all hd hst (Nat.le_refl _), by rw [← b2, ← c2]; exact nx_mono hst (Nat.zero_le _) (Nat.le_refl _), fun ρ a w w0 id Q A R hQ => ?_⟩
 refine wp_region_any hm ?_
 have hR1 : HRel ρ h { w with drawn := w.drawn + 1 } w0 := R.dr _
 obtain ⟨M, m1, m2, m3, m4⟩ := next_bar (P := P) (nt := nt) (Ts := Ts) (Hs := Hs) hd hst 0 ops.size (by omega)
 have hno : ∀ j, ¬ InL (Array.replicate ops.size false) j := by
   intro j; unfold InL
   by_cases hj : j < ops.size <;> simp [hj]
 refine any_ok hd hst (ρ0 := ρ) (w0 := w0) (fun ρ' a' w' h1 h2 h3 => hQ ρ' a' w' (by rw [← b2]; exact h1) (by rw [← c1]; exact h2) (by rw [← c2]; exact h3)) ops.size _ a _ ρ 0 M (by simp) (by unfold left; exact Nat.le_trans (List.length_filter_le _ _) (by simp)) (fun j o hj hin => absurd hin (hno j)) ?_
 refine ⟨A.size, A.defers, Ext.refl _ _, fun q h5 => ⟨0, Nat.zero_le _, .inl rfl, fun j o hj hdj => ⟨fun h => by omega, fun h => absurd h (hno j)⟩, ?_⟩, Nat.zero_le _, m2, fun j o hj h1 h2 => by omega, fun j o hj h1 h2 => hno j, m3, m4,
   fun i g L hL => ?_, fun i g L hL j o hj hnj hbd => ?_, fun m h1 h2 => ?_⟩
 · rw [b1, b2]
   exact VRel.up (fun i g L hL => Emb.below_of hL (R.ids _ _ _ hL)) _ _ (A.slot q h5)
 · have := R.ids _ _ _ hL
   rw [← b2] at this
   exact Nat.lt_of_lt_of_le this (nx_mono hst (Nat.zero_le _) m2)
 · have := R.ids _ _ _ hL
   rw [← b2] at this
   have hjN : j < ops.size := (Array.getElem?_eq_some_iff.1 hj).1
   have := nx_mono hst (m := 0) (n := j) (Nat.zero_le _) (by omega)
   omega
 · have hmN : m ≤ ops.size := by omega
   rw [← b2] at hR1
   have hR2 : HRel ρ (Hs m) { w with drawn := w.drawn + 1 } w0 := hR1.later (fun i g L hL => seg_keep hst m2 m3 (Nat.le_refl _) h1 h2 (hR1.ids _ _ _ hL)) (nx_mono hst h1 hmN) (fl_same hst hmN)
   exact hR2.congr fun i g => by
     cases hL : ρ i g with
     | none => unfold Emb.below; rw [hL]; split <;> rfl
     | some L => exact Emb.below_of hL (hR2.ids _ _ _ hL)
def WO (P : Program) (l : List CO) (t : F) (h : H) (K : F → H → Prop) : Prop := ∃ t' h', OpsRel P l t h t' h' ∧ K t' h'
def DO (P : Program) (l : List CO) (t : F) (h : H) (K : F → H → Prop) : Prop := ∃ t' h', DrsRel P l t h t' h' ∧ K t' h'
section
variable {P : Program} {nt : Nat} {t : F} {h : H} {K : X → F → H → Prop}
theorem Ok.rg {l : List CO} (a : WO P l t h (K .normal)) : Ok P nt (.region l) t h K := by
 obtain ⟨t', h', e, k⟩ := a
 refine ⟨.normal, t', h', by_scopes _ fun c e' hs => ?_, k⟩
 cases c with
 | region id os draw =>
   have e1 : compRegion P nt os.toList draw = .region l := e'
   unfold compRegion at e1
   split at e1
   · cases e1
     obtain ⟨a2, a3, a4⟩ := opsRel_ok (fun _ => true) os.toList 0 (by simp) t h t' h' e
     refine ⟨a2, a3, fun ρ a w w0 Q A R hQ => wp_region ?_⟩
     have := a4 ρ a w w0 Q A R hQ
     rwa [show List.range' 0 os.toList.length = List.range os.size by rw [List.range_eq_range']; simp] at this
   · split at e1 <;> cases e1
 | scope d => exact absurd rfl (hs d)
 | _ => cases e'
theorem Ok.dw (hm : P.follows .mixedOrders = true) {l : List CO} {ch : Option (List Nat × List (Nat × List Nat))} (a : DO P l t h (K .normal)) : Ok P nt (.draws l ch) t h K := by
 obtain ⟨t', h', e, k⟩ := a
 refine ⟨.normal, t', h', by_scopes _ fun c e' hs => ?_, k⟩
 cases c with
 | region id os draw =>
   have e1 : compRegion P nt os.toList draw = .draws l ch := e'
   unfold compRegion at e1
   split at e1
   · cases e1
   · split at e1
     · rename_i hd
       cases e1
       obtain ⟨a2, a3, a4⟩ := drsRel_ok hm hd e
       exact ⟨a2, a3, fun ρ a w w0 Q A R hQ => a4 ρ a w w0 id Q A R hQ⟩
     · cases e1
 | scope d => exact absurd rfl (hs d)
 | _ => cases e'
end
end Go.Ev

set_option linter.all false
namespace Go.Ev
open Go
noncomputable def wB (n : Nat) (r : Run) : CO := .mk .none (.some (slOf n)) true (.mk r)
noncomputable def uB (n : Nat) (r : Run) : CO := .mk .none (.some (slOf n)) false (.mk r)
noncomputable def wG (g : Nat) (w : Bool) (n : Nat) (r : Run) : CO := .mk (.some (slOf g) w) (.some (slOf n)) true (.mk r)
noncomputable def uG (g : Nat) (w : Bool) (n : Nat) (r : Run) : CO := .mk (.some (slOf g) w) (.some (slOf n)) false (.mk r)
noncomputable def oN (n : Nat) : O := .c (.i .i64 (.ofNat n))
theorem wB_eq (n : Nat) (r : Run) : wB n r = .mk .none (.some (slOf n)) true (.mk r) := rfl
theorem uB_eq (n : Nat) (r : Run) : uB n r = .mk .none (.some (slOf n)) false (.mk r) := rfl
theorem wG_eq (g : Nat) (w : Bool) (n : Nat) (r : Run) : wG g w n r = .mk (.some (slOf g) w) (.some (slOf n)) true (.mk r) := rfl
theorem uG_eq (g : Nat) (w : Bool) (n : Nat) (r : Run) : uG g w n r = .mk (.some (slOf g) w) (.some (slOf n)) false (.mk r) := rfl
theorem oN_eq (n : Nat) : oN n = .c (.i .i64 (.ofNat n)) := rfl
inductive Nx where
 | w (n : Nat) (l : List CO) (t : F) (K : F → H → Prop)
 | w0 (l : List CO) (t : F) (K : F → H → Prop)
 | d (n : Nat) (l : List CO) (t : F) (K : F → H → Prop)
 | d0 (l : List CO) (t : F) (K : F → H → Prop)
 | u (n : Nat) (l : List CO) (t : F) (h : H) (K : F → H → Prop)
 | u0 (l : List CO) (t : F) (h : H) (K : F → H → Prop)
def Nx.go (P : Program) : Nx → V → H → Prop
 | .w n l t K, v, h => WO P l (put n v t) h K
 | .w0 l t K, _, h => WO P l t h K
 | .d n l t K, v, h => DO P l (put n v t) h K
 | .d0 l t K, _, h => DO P l t h K
 | .u n l t h0 K, v, h => DO P l (put n v t) (unFloor h0 h) K
 | .u0 l t h0 K, _, h => DO P l t (unFloor h0 h) K
def OR (P : Program) (r : Run) (t : F) (h : H) (N : Nx) : Prop := ∃ v h', RunRel P (.mk r) t h v h' ∧ N.go P v h'
def GD (P : Program) (q : V) (w : Bool) (r : Run) (t : F) (h : H) (N : Nx) : Prop := ∃ b, (∀ k, vG q w k = k b) ∧ ((b = true ∧ OR P r t h N) ∨ (b = false ∧ N.go P (.tu []) h))
theorem b_of {b c : Bool} (e : ∀ k : Bool → Bool, k b = k c) : c = b := (e id).symm
theorem v_of {v u : V} (e : ∀ k : V → Bool, k v = k u) : u = v := by
 have := e fun x => @decide (x = v) (Classical.propDecidable _)
 simp at this
 exact this
theorem f_of {v u : F} (e : ∀ k : F → Bool, k v = k u) : u = v := by
 have := e fun x => @decide (x = v) (Classical.propDecidable _)
 simp at this
 exact this
theorem l_of {v u : List V} (e : ∀ k : List V → Bool, k v = k u) : u = v := by
 have := e fun x => @decide (x = v) (Classical.propDecidable _)
 simp at this
 exact this
theorem vh_of {v u : V} {h g : H} (e : ∀ k : V → H → Bool, k v h = k u g) : u = v ∧ g = h := by
 have := e fun x y => @decide (x = v ∧ y = h) (Classical.propDecidable _)
 simp at this
 exact ⟨this.1, this.2⟩
section
variable {P : Program} {l : List CO} {t : F} {h : H} {K : F → H → Prop} {r : Run} {n g : Nat} {w b : Bool}
theorem wo_nil : WO P [] t h K = K t h := propext ⟨fun ⟨_, _, ⟨e1, e2⟩, k⟩ => by subst e1; subst e2; exact k, fun k => ⟨t, h, ⟨rfl, rfl⟩, k⟩⟩
theorem do_nil : DO P [] t h K = K t h := propext ⟨fun ⟨_, _, ⟨e1, e2⟩, k⟩ => by subst e1; subst e2; exact k, fun k => ⟨t, h, ⟨rfl, rfl⟩, k⟩⟩
theorem putS {v : V} (k : F → Bool) : putD (.some (slOf n)) v t k = k (put n v t) := sPut_put n v t k
theorem wo_c : WO P (.mk .none (.some (slOf n)) b (.mk r) :: l) t h K = OR P r t h (.w n l t K) := by
 apply propext; constructor
 · rintro ⟨t', h', ⟨t1, h1, ⟨q, g1, g2⟩, e⟩, k⟩
   have hq := b_of (b := true) (c := q) fun k => g1 k
   subst hq
   rcases g2 with ⟨_, v, rr, p⟩ | ⟨e', _⟩
   · have := f_of fun k => (putS k).symm.trans (p k)
     subst this
     exact ⟨v, h1, rr, t', h', e, k⟩
   · cases e'
 · rintro ⟨v, h1, rr, t', h', e, k⟩
   exact ⟨t', h', ⟨_, h1, ⟨true, fun _ => rfl, .inl ⟨rfl, v, rr, fun k => putS k⟩⟩, e⟩, k⟩
theorem wo_0 : WO P (.mk .none .none b (.mk r) :: l) t h K = OR P r t h (.w0 l t K) := by
 apply propext; constructor
 · rintro ⟨t', h', ⟨t1, h1, ⟨q, g1, g2⟩, e⟩, k⟩
   have hq := b_of (b := true) (c := q) fun k => g1 k
   subst hq
   rcases g2 with ⟨_, v, rr, p⟩ | ⟨e', _⟩
   · have := f_of fun k => p k
     subst this
     exact ⟨v, h1, rr, t', h', e, k⟩
   · cases e'
 · rintro ⟨v, h1, rr, t', h', e, k⟩
   exact ⟨t', h', ⟨_, h1, ⟨true, fun _ => rfl, .inl ⟨rfl, v, rr, fun k => rfl⟩⟩, e⟩, k⟩
theorem wo_g : WO P (.mk (.some (slOf g) w) (.some (slOf n)) b (.mk r) :: l) t h K = GD P (get g t) w r t h (.w n l t K) := by
 apply propext; constructor
 · rintro ⟨t', h', ⟨t1, h1, ⟨q, g1, g2⟩, e⟩, k⟩
   refine ⟨q, g1, ?_⟩
   rcases g2 with ⟨rfl, v, rr, p⟩ | ⟨rfl, rfl, p⟩
   · have := f_of fun k => (putS k).symm.trans (p k)
     subst this
     exact .inl ⟨rfl, v, h1, rr, t', h', e, k⟩
   · have := f_of fun k => (putS k).symm.trans (p k)
     subst this
     exact .inr ⟨rfl, t', h', e, k⟩
 · rintro ⟨q, g1, ⟨rfl, v, h1, rr, t', h', e, k⟩ | ⟨rfl, t', h', e, k⟩⟩
   · exact ⟨t', h', ⟨_, h1, ⟨true, g1, .inl ⟨rfl, v, rr, fun k => putS k⟩⟩, e⟩, k⟩
   · exact ⟨t', h', ⟨_, h, ⟨false, g1, .inr ⟨rfl, rfl, fun k => putS k⟩⟩, e⟩, k⟩
theorem wo_g0 : WO P (.mk (.some (slOf g) w) .none b (.mk r) :: l) t h K = GD P (get g t) w r t h (.w0 l t K) := by
 apply propext; constructor
 · rintro ⟨t', h', ⟨t1, h1, ⟨q, g1, g2⟩, e⟩, k⟩
   refine ⟨q, g1, ?_⟩
   rcases g2 with ⟨rfl, v, rr, p⟩ | ⟨rfl, rfl, p⟩
   · have := f_of fun k => p k
     subst this
     exact .inl ⟨rfl, v, h1, rr, t', h', e, k⟩
   · have := f_of fun k => p k
     subst this
     exact .inr ⟨rfl, t', h', e, k⟩
 · rintro ⟨q, g1, ⟨rfl, v, h1, rr, t', h', e, k⟩ | ⟨rfl, t', h', e, k⟩⟩
   · exact ⟨t', h', ⟨_, h1, ⟨true, g1, .inl ⟨rfl, v, rr, fun k => rfl⟩⟩, e⟩, k⟩
   · exact ⟨t', h', ⟨_, h, ⟨false, g1, .inr ⟨rfl, rfl, fun k => rfl⟩⟩, e⟩, k⟩
theorem do_c : DO P (.mk .none (.some (slOf n)) true (.mk r) :: l) t h K = OR P r t h (.d n l t K) := by
 apply propext; constructor
 · rintro ⟨t', h', ⟨t1, h1, ⟨q, g1, g2⟩, e⟩, k⟩
   have hq := b_of (b := true) (c := q) fun k => g1 k
   subst hq
   rcases g2 with ⟨_, v, rr, p⟩ | ⟨e', _⟩
   · have := f_of fun k => (putS k).symm.trans (p k)
     subst this
     exact ⟨v, h1, rr, t', h', e, k⟩
   · cases e'
 · rintro ⟨v, h1, rr, t', h', e, k⟩
   exact ⟨t', h', ⟨_, h1, ⟨true, fun _ => rfl, .inl ⟨rfl, v, rr, fun k => putS k⟩⟩, e⟩, k⟩
theorem do_0 : DO P (.mk .none .none true (.mk r) :: l) t h K = OR P r t h (.d0 l t K) := by
 apply propext; constructor
 · rintro ⟨t', h', ⟨t1, h1, ⟨q, g1, g2⟩, e⟩, k⟩
   have hq := b_of (b := true) (c := q) fun k => g1 k
   subst hq
   rcases g2 with ⟨_, v, rr, p⟩ | ⟨e', _⟩
   · have := f_of fun k => p k
     subst this
     exact ⟨v, h1, rr, t', h', e, k⟩
   · cases e'
 · rintro ⟨v, h1, rr, t', h', e, k⟩
   exact ⟨t', h', ⟨_, h1, ⟨true, fun _ => rfl, .inl ⟨rfl, v, rr, fun k => rfl⟩⟩, e⟩, k⟩
theorem do_g : DO P (.mk (.some (slOf g) w) (.some (slOf n)) true (.mk r) :: l) t h K = GD P (get g t) w r t h (.d n l t K) := by
 apply propext; constructor
 · rintro ⟨t', h', ⟨t1, h1, ⟨q, g1, g2⟩, e⟩, k⟩
   refine ⟨q, g1, ?_⟩
   rcases g2 with ⟨rfl, v, rr, p⟩ | ⟨rfl, rfl, p⟩
   · have := f_of fun k => (putS k).symm.trans (p k)
     subst this
     exact .inl ⟨rfl, v, h1, rr, t', h', e, k⟩
   · have := f_of fun k => (putS k).symm.trans (p k)
     subst this
     exact .inr ⟨rfl, t', h', e, k⟩
 · rintro ⟨q, g1, ⟨rfl, v, h1, rr, t', h', e, k⟩ | ⟨rfl, t', h', e, k⟩⟩
   · exact ⟨t', h', ⟨_, h1, ⟨true, g1, .inl ⟨rfl, v, rr, fun k => putS k⟩⟩, e⟩, k⟩
   · exact ⟨t', h', ⟨_, h, ⟨false, g1, .inr ⟨rfl, rfl, fun k => putS k⟩⟩, e⟩, k⟩
theorem do_u : DO P (.mk .none (.some (slOf n)) false (.mk r) :: l) t h K = OR P r t (reFloor h) (.u n l t h K) := by
 apply propext; constructor
 · rintro ⟨t', h', ⟨t1, h1, ⟨q, g1, g2⟩, e⟩, k⟩
   have hq := b_of (b := true) (c := q) fun k => g1 k
   subst hq
   rcases g2 with ⟨_, v, h2, rr, rfl, p⟩ | ⟨e', _⟩
   · have := f_of fun k => (putS k).symm.trans (p k)
     subst this
     exact ⟨v, h2, rr, t', h', e, k⟩
   · cases e'
 · rintro ⟨v, h2, rr, t', h', e, k⟩
   exact ⟨t', h', ⟨_, _, ⟨true, fun _ => rfl, .inl ⟨rfl, v, h2, rr, rfl, fun k => putS k⟩⟩, e⟩, k⟩
theorem do_u0 : DO P (.mk .none .none false (.mk r) :: l) t h K = OR P r t (reFloor h) (.u0 l t h K) := by
 apply propext; constructor
 · rintro ⟨t', h', ⟨t1, h1, ⟨q, g1, g2⟩, e⟩, k⟩
   have hq := b_of (b := true) (c := q) fun k => g1 k
   subst hq
   rcases g2 with ⟨_, v, h2, rr, rfl, p⟩ | ⟨e', _⟩
   · have := f_of fun k => p k
     subst this
     exact ⟨v, h2, rr, t', h', e, k⟩
   · cases e'
 · rintro ⟨v, h2, rr, t', h', e, k⟩
   exact ⟨t', h', ⟨_, _, ⟨true, fun _ => rfl, .inl ⟨rfl, v, h2, rr, rfl, fun k => rfl⟩⟩, e⟩, k⟩
theorem unFloor_re (h : H) : unFloor h (reFloor h) = h := by cases h; rfl
theorem do_gu : DO P (.mk (.some (slOf g) w) (.some (slOf n)) false (.mk r) :: l) t h K = GD P (get g t) w r t (reFloor h) (.u n l t h K) := by
 apply propext; constructor
 · rintro ⟨t', h', ⟨t1, h1, ⟨q, g1, g2⟩, e⟩, k⟩
   refine ⟨q, g1, ?_⟩
   rcases g2 with ⟨rfl, v, h2, rr, rfl, p⟩ | ⟨rfl, rfl, p⟩
   · have := f_of fun k => (putS k).symm.trans (p k)
     subst this
     exact .inl ⟨rfl, v, h2, rr, t', h', e, k⟩
   · have := f_of fun k => (putS k).symm.trans (p k)
     subst this
     exact .inr ⟨rfl, t', h', by rw [unFloor_re]; exact e, k⟩
 · rintro ⟨q, g1, ⟨rfl, v, h2, rr, t', h', e, k⟩ | ⟨rfl, t', h', e, k⟩⟩
   · exact ⟨t', h', ⟨_, _, ⟨true, g1, .inl ⟨rfl, v, h2, rr, rfl, fun k => putS k⟩⟩, e⟩, k⟩
   · rw [unFloor_re] at e
     exact ⟨t', h', ⟨_, h, ⟨false, g1, .inr ⟨rfl, rfl, fun k => putS k⟩⟩, e⟩, k⟩
end
section
variable {P : Program} {l : List CO} {t : F} {h h0 : H} {K : F → H → Prop} {n : Nat} {v : V}
theorem go_w : (Nx.w n l t K).go P v h = WO P l (put n v t) h K := rfl
theorem go_w0 : (Nx.w0 l t K).go P v h = WO P l t h K := rfl
theorem go_d : (Nx.d n l t K).go P v h = DO P l (put n v t) h K := rfl
theorem go_d0 : (Nx.d0 l t K).go P v h = DO P l t h K := rfl
theorem go_u : (Nx.u n l t h0 K).go P v h = DO P l (put n v t) (unFloor h0 h) K := rfl
theorem go_u0 : (Nx.u0 l t h0 K).go P v h = DO P l t (unFloor h0 h) K := rfl
end
section
variable {P : Program} {r : Run} {t : F} {h : H} {N : Nx} {w q : Bool}
theorem gd_eq : GD P (.b q) w r t h N = if q = w then OR P r t h N else N.go P (.tu []) h := by
 have e1 : ∀ f, vG (.b q) w f = f (xor (xor q w) true) := fun _ => rfl
 apply propext; constructor
 · rintro ⟨b, g1, g2⟩
   have := b_of fun k => (e1 k).symm.trans (g1 k)
   subst this
   rcases g2 with ⟨e, k⟩ | ⟨e, k⟩
   · rw [if_pos (by cases q <;> cases w <;> simp_all)]; exact k
   · rw [if_neg (by cases q <;> cases w <;> simp_all)]; exact k
 · intro k
   refine ⟨_, e1, ?_⟩
   split at k
   · rename_i e; exact .inl ⟨by cases q <;> cases w <;> simp_all, k⟩
   · rename_i e; exact .inr ⟨by cases q <;> cases w <;> simp_all, k⟩
theorem gd_tt : GD P (.b true) true r t h N = OR P r t h N := by rw [gd_eq]; rfl
theorem gd_ff : GD P (.b false) false r t h N = OR P r t h N := by rw [gd_eq]; rfl
theorem gd_tf : GD P (.b true) false r t h N = N.go P (.tu []) h := by rw [gd_eq]; rfl
theorem gd_ft : GD P (.b false) true r t h N = N.go P (.tu []) h := by rw [gd_eq]; rfl
theorem gd_tu : GD P (.tu []) w r t h N = N.go P (.tu []) h := by
 have e1 : ∀ f, vG (.tu []) w f = f false := fun _ => rfl
 apply propext; constructor
 · rintro ⟨b, g1, g2⟩
   have := b_of fun k => (e1 k).symm.trans (g1 k)
   subst this
   rcases g2 with ⟨e, k⟩ | ⟨e, k⟩
   · cases e
   · exact k
 · intro k; exact ⟨_, e1, .inr ⟨rfl, k⟩⟩
theorem gd_split (a : q = true → GD P (.b true) w r t h N) (b : q = false → GD P (.b false) w r t h N) : GD P (.b q) w r t h N := by
 cases q with
 | true => exact a rfl
 | false => exact b rfl
end
def HV (P : Program) (g : (V → Bool) → Bool) (h : H) (N : Nx) : Prop := ∃ v, (∀ k, g k = k v) ∧ N.go P v h
def H1 (P : Program) (g : V → (V → Bool) → Bool) (x : V) (h : H) (N : Nx) : Prop := HV P (g x) h N
def H2 (P : Program) (g : V → V → (V → Bool) → Bool) (x y : V) (h : H) (N : Nx) : Prop := HV P (g x y) h N
def H3 (P : Program) (g : V → V → V → (V → Bool) → Bool) (x y z : V) (h : H) (N : Nx) : Prop := HV P (g x y z) h N
theorem or_hv {P : Program} {r : Run} {t : F} {h : H} {N : Nx} {g : (V → Bool) → Bool} (e : ∀ cf k, r cf t h k = g fun v => k v h) : OR P r t h N = HV P g h N := by
 apply propext; constructor
 · rintro ⟨v, h', ⟨cf, c1, c2⟩, k⟩
   have hh : h' = h := by
     have h1 := c2 fun _ x => @decide (x = h) (Classical.propDecidable _)
     have h2 := c2 fun _ _ => true
     have e1 := e cf fun _ x => @decide (x = h) (Classical.propDecidable _)
     have e2 := e cf fun _ _ => true
     have : (fun (v : V) => (fun _ x => @decide (x = h) (Classical.propDecidable _)) v h) = fun (v : V) => (fun _ _ => true) v h := by funext v; simp
     rw [this, ← e2] at e1
     have h1' : r cf t h (fun _ x => @decide (x = h) (Classical.propDecidable _)) = @decide (h' = h) (Classical.propDecidable _) := h1
     have h2' : r cf t h (fun _ _ => true) = true := h2
     rw [e1, h2'] at h1'
     simpa using h1'.symm
   subst hh
   exact ⟨v, fun k0 => by rw [← e cf fun v _ => k0 v]; exact c2 _, k⟩
 · rintro ⟨v, g1, k⟩
   exact ⟨v, h, ⟨_, cfSome P, fun k => by show r _ t h k = _; rw [e, g1]⟩, k⟩
theorem hv_of {P : Program} {h : H} {N : Nx} {g : (V → Bool) → Bool} {v : V} (e : ∀ k, g k = k v) : HV P g h N = N.go P v h :=
 propext ⟨fun ⟨u, g1, k⟩ => by have := v_of fun k => (e k).symm.trans (g1 k); subst this; exact k, fun k => ⟨v, e, k⟩⟩
noncomputable def gBin (f : BinF) (x y : V) (k : V → Bool) : Bool := vI x fun kd a => vI y fun kd' b => ifK (kdEq kd kd') fun _ => f kd a b k
noncomputable def gShift (f : IntKind → Int → Nat → (V → Bool) → Bool) (x y : V) (k : V → Bool) : Bool := vI x fun kd a => vI y fun _ b => natK b fun n => f kd a (min n kd.bits) k
noncomputable def gRem (x y : V) (k : V → Bool) : Bool := vI y fun kd' b => vIR x (fun kd a => ifK (kdEq kd kd') fun _ => fRem kd a b k) fun kd m r _ => remR kd' b k kd m r
noncomputable def gBool (ne : Bool) (x y : V) (k : V → Bool) : Bool := vB x fun a => vB y fun b => k (.b (xor ne (xor (xor a b) true)))
noncomputable def gNot (x : V) (k : V → Bool) : Bool := vB x fun a => k (.b (!a))
noncomputable def gNeg (x : V) (k : V → Bool) : Bool := vI x fun kd n => wrapF (Int.neg n) kd (mxOf kd) k
noncomputable def gConv (kd : IntKind) (x : V) (k : V → Bool) : Bool := vIR x (fun _ n => k (.i kd (kd.wrap n))) fun _ m r hi => ifK (Nat.ble hi (mxOf kd)) fun _ => k (.r kd m r hi)
noncomputable def gExt (j : Nat) (x : V) (k : V → Bool) : Bool := vT x fun vs => optK (vs[j]?) k
noncomputable def gLenS (x : V) (k : V → Bool) : Bool := vS x fun n _ => k (.i .i64 (.ofNat n))
noncomputable def gLen (x : V) (k : V → Bool) : Bool := lenV x fun n => k (.i .i64 (n : Int))
noncomputable def gMin (x y : V) (k : V → Bool) : Bool := vI x fun kd a => vI y fun kd' b => ifK (kdEq kd kd') fun _ => k (.i kd (min a b))
noncomputable def gMax (x y : V) (k : V → Bool) : Bool := vI x fun kd a => vI y fun kd' b => ifK (kdEq kd kd') fun _ => k (.i kd (max a b))
noncomputable def gPick (c x y : V) (k : V → Bool) : Bool := vB c fun q => k (cond q x y)
noncomputable def gField (d : Nat) (x : V) (k : V → Bool) : Bool := vA x fun cs => optK (cs[d]?) k
noncomputable def gFieldA (d size : Nat) (x : V) (k : V → Bool) : Bool := vA x fun cs => k (.a ((cs.drop d).take size))
noncomputable def gFieldAddr (d : Nat) (x : V) (k : V → Bool) : Bool := vP x fun id g off fin => k (.p id g (off + d) fin)
noncomputable def gNilCheck (x : V) (k : V → Bool) : Bool := vP x fun id g off fin => k (.p id g off fin)
noncomputable def gIndex (size : Nat) (x y : V) (k : V → Bool) : Bool := vI y fun _ n => natK n fun n => idxV size x n k
noncomputable def gIndexArr (len size : Nat) (x y : V) (k : V → Bool) : Bool := vP x fun id g off fin => vI y fun _ n => natK n fun n => ifK (Nat.ble (Nat.succ n) len) fun _ => k (.p id g (off + n * size) fin)
noncomputable def gSIndex (x y : V) (k : V → Bool) : Bool := vI y fun _ n => natK n fun n => sixV x n k
noncomputable def gAIndex (len size : Nat) (x y : V) (k : V → Bool) : Bool := vA x fun cs => vI y fun _ n => natK n fun n => ifK (Nat.ble (Nat.succ n) len) fun _ => optK (cs[Nat.mul n size]?) k
noncomputable def gSS2 (x a b : V) (k : V → Bool) : Bool := vI a fun _ p => natK p fun p => vI b fun _ q => natK q fun q => ssV x p q k
noncomputable def gSS1 (x b : V) (k : V → Bool) : Bool := vI b fun _ q => natK q fun q => ssV x 0 q k
noncomputable def gSSa (x a : V) (k : V → Bool) : Bool := vI a fun _ p => natK p fun p => ssaV x p k
noncomputable def gMoveS (x : V) (k : V → Bool) : Bool := vS x fun l n => k (.s l n)
noncomputable def gNil (f : V → (Bool → Bool) → Bool) (ne : Bool) (x y : V) (k : V → Bool) : Bool := f x fun a => f y fun b => ifK (a || b) fun _ => k (.b (xor ne (a && b)))
noncomputable def gSliceArr (n size : Nat) (x a : V) (k : V → Bool) : Bool := vP x fun id g off fin => vI a fun _ p => natK p fun p => ifK (Nat.ble p n) fun _ => sliceC size id g off n fin n p n k
section
variable {P : Program} {t : F} {h : H} {N : Nx} (o x y c : O)
theorem or_move : OR P (doMove o) t h N = N.go P (oV o t) h := (or_hv (g := fun k => k (oV o t)) fun cf k => ev_move ..).trans (hv_of fun _ => rfl)
theorem or_pick : OR P (doPick c x y) t h N = H3 P gPick (oV c t) (oV x t) (oV y t) h N := or_hv fun cf k => ev_pick ..
theorem or_bin (f : BinF) : OR P (bin2 f x y) t h N = H2 P (gBin f) (oV x t) (oV y t) h N := or_hv fun cf k => ev_bin ..
theorem or_shift (f : IntKind → Int → Nat → (V → Bool) → Bool) : OR P (doShift f x y) t h N = H2 P (gShift f) (oV x t) (oV y t) h N := or_hv fun cf k => ev_shift ..
theorem or_rem : OR P (doRem x y) t h N = H2 P gRem (oV x t) (oV y t) h N := or_hv fun cf k => ev_rem ..
theorem or_bool (ne : Bool) : OR P (doBool ne x y) t h N = H2 P (gBool ne) (oV x t) (oV y t) h N := or_hv fun cf k => ev_bool ..
theorem or_not : OR P (doNot x) t h N = H1 P gNot (oV x t) h N := or_hv fun cf k => ev_not ..
theorem or_neg : OR P (doNeg x) t h N = H1 P gNeg (oV x t) h N := or_hv fun cf k => by simp only [doNeg, oE_eq]; rfl
theorem or_conv (kd : IntKind) : OR P (doConv kd x) t h N = H1 P (gConv kd) (oV x t) h N := or_hv fun cf k => ev_convR ..
theorem or_ext (j : Nat) : OR P (doExtract j x) t h N = H1 P (gExt j) (oV x t) h N := or_hv fun cf k => ev_extract ..
theorem or_lenS : OR P (doLenS x) t h N = H1 P gLenS (oV x t) h N := or_hv fun cf k => ev_lenS ..
theorem or_len : OR P (doLen x) t h N = H1 P gLen (oV x t) h N := or_hv fun cf k => ev_len ..
theorem or_min : OR P (doMin x y) t h N = H2 P gMin (oV x t) (oV y t) h N := or_hv fun cf k => ev_min ..
theorem or_max : OR P (doMax x y) t h N = H2 P gMax (oV x t) (oV y t) h N := or_hv fun cf k => ev_max ..
theorem or_field (d : Nat) : OR P (doField d o) t h N = H1 P (gField d) (oV o t) h N := or_hv fun cf k => ev_field ..
theorem or_fieldA (d size : Nat) : OR P (doFieldA d size o) t h N = H1 P (gFieldA d size) (oV o t) h N := or_hv fun cf k => ev_fieldA ..
theorem or_fieldAddr (d : Nat) : OR P (doFieldAddr d o) t h N = H1 P (gFieldAddr d) (oV o t) h N := or_hv fun cf k => ev_fieldAddr ..
theorem or_nilCheck : OR P (doNilCheck o) t h N = H1 P gNilCheck (oV o t) h N := or_hv fun cf k => ev_nilCheck ..
theorem or_idx (size : Nat) : OR P (doIndexAddr size o x) t h N = H2 P (gIndex size) (oV o t) (oV x t) h N := or_hv fun cf k => ev_idx ..
theorem or_idxArr (len size : Nat) : OR P (doIndexAddrArr len size o x) t h N = H2 P (gIndexArr len size) (oV o t) (oV x t) h N := or_hv fun cf k => ev_idxArr ..
theorem or_sindex : OR P (doSIndex x y) t h N = H2 P gSIndex (oV x t) (oV y t) h N := or_hv fun cf k => ev_sindex ..
theorem or_aindex (len size : Nat) : OR P (doAIndex len size x y) t h N = H2 P (gAIndex len size) (oV x t) (oV y t) h N := or_hv fun cf k => by simp only [doAIndex, oE_eq, forceV_eq]; rfl
theorem or_concat : OR P (doConcat x y) t h N = H2 P catV (oV x t) (oV y t) h N := or_hv fun cf k => ev_concat ..
theorem or_scmp (f : Nat → Nat → Nat → Nat → Bool) : OR P (doSCmp f x y) t h N = H2 P (scV f) (oV x t) (oV y t) h N := or_hv fun cf k => ev_scmp ..
theorem or_cmpS : OR P (doCmpS x y) t h N = H2 P cmV (oV x t) (oV y t) h N := or_hv fun cf k => ev_cmpS ..
theorem or_ss2 (a b : O) : OR P (doSSlice x (some a) (some b)) t h N = H3 P gSS2 (oV x t) (oV a t) (oV b t) h N := or_hv fun cf k => ev_ss2 ..
theorem or_ss1 (b : O) : OR P (doSSlice x none (some b)) t h N = H2 P gSS1 (oV x t) (oV b t) h N := or_hv fun cf k => ev_ss1 ..
theorem or_ssa (a : O) : OR P (doSSlice x (some a) none) t h N = H2 P gSSa (oV x t) (oV a t) h N := or_hv fun cf k => ev_ssa ..
theorem or_moveS : OR P (doMoveS x) t h N = H1 P gMoveS (oV x t) h N := or_hv fun cf k => by simp only [doMoveS, oE_eq]; rfl
theorem or_nil (f : V → (Bool → Bool) → Bool) (ne : Bool) : OR P (doNil f ne x y) t h N = H2 P (gNil f ne) (oV x t) (oV y t) h N := or_hv fun cf k => by simp only [doNil, oE_eq, fB_eq]; rfl
theorem or_sliceArr (n size : Nat) (a : O) : OR P (doSliceArr n size x (some a) none) t h N = H2 P (gSliceArr n size) (oV x t) (oV a t) h N := or_hv fun cf k => ev_sliceArr ..
end
end Go.Ev

set_option linter.all false
namespace Go.Ev
open Go
def OwnE (h : H) (id : B) (el : Nat) (xs : List V) : Prop := ∃ blk, h.heap.get id = some blk ∧ blk.cur = 0 ∧ blk.min = 0 ∧ blk.fr = 0 ∧ blk.el = el ∧ B.val h.floor ≤ B.val id ∧ B.val id < B.val h.next ∧ ∀ i y, xs[i]? = some y → blk.cells.getN i = some y
theorem OwnE.own {h : H} {id : B} {el : Nat} {xs : List V} (o : OwnE h id el xs) : Own h id xs := by
 obtain ⟨blk, h1, h2, h3, h4, h5, h6, h7, h8⟩ := o
 exact ⟨blk, h1, h2, h3, h4, h6, h7, h8⟩
section
variable {P : Program} {S : Spec} {l : List CO} {t : F} {h : H} {K : F → H → Prop}
end
section
variable (cf : CallF) (t : F) (h : H) (k : V → H → Bool) (x y : O)
theorem ev_ptr (ne : Bool) : doPtr ne x y cf t h k = vPZ (oV x t) (fun _ => vPZ (oV y t) (fun _ => k (.b (!ne)) h) fun _ _ _ _ => k (.b ne) h) (ptrK ne (oV y t) fun v => k v h) := by simp only [doPtr, oE_eq, fB_eq]
theorem ptrK_p0 (ne : Bool) (k : V → Bool) (id : B) (g off fin : Nat) : ptrK ne .p0 k id g off fin = k (.b ne) := by
 unfold ptrK
 rw [vPZ_p0, fB_eq]
end
theorem unpK_map : ∀ (m : Nat) (l : List UInt8) (acc : List V) (k : List V → Bool), l.length = m → unpK m (pk l) acc k = k (l.map bv ++ acc) := by
 intro m
 induction m with
 | zero =>
   intro l acc k h
   have : l = [] := List.eq_nil_of_length_eq_zero h
   subst this; rfl
 | succ m ih =>
   intro l acc k h
   have hne : l ≠ [] := by intro h0; subst h0; simp at h
   obtain ⟨l', b, rfl⟩ : ∃ l' b, l = l' ++ [b] := ⟨l.dropLast, l.getLast hne, (List.dropLast_concat_getLast hne).symm⟩
   have hs := pk_split l' [b]
   have hb : pk [b] = b.toNat := by simp [pk]
   simp only [List.length_cons, List.length_nil, Nat.zero_add, Nat.pow_one, hb] at hs
   show fN (Nat.mod (pk (l' ++ [b])) 256) (fun c => fN (Nat.div (pk (l' ++ [b])) 256) fun n => unpK m n (.i .u8 (.ofNat c) :: acc) k) = _
   rw [fN_eq, fN_eq]
   have e1 : Nat.mod (pk (l' ++ [b])) 256 = b.toNat := hs.2
   have e2 : Nat.div (pk (l' ++ [b])) 256 = pk l' := hs.1
   rw [e1, e2, ih l' _ k (by simpa using h)]
   simp [bv]
theorem allOne_bv : ∀ l : List UInt8, allOne (l.map bv) = true
 | [] => rfl
 | _ :: l => allOne_bv l
section
variable {P : Program} {S : Spec} {l : List CO} {t : F} {h : H} {K : F → H → Prop}
end
section
variable {P : Program} {S : Spec} {l : List CO} {t : F} {h : H} {K : F → H → Prop}
end
def Top (h : H) (v : V) : Prop := ∀ id g off n fin cap, v = .l id g off n fin cap → ∃ blk, h.heap.get id = some blk ∧ blk.cur = g
theorem append_top {h : H} {el size n : Nat} {v : V} {xs vs : List V} (b : Buf h el size v xs) (hf : B.val h.floor ≤ B.val h.next) (hsz : 1 ≤ size) (hn : vs.length = n * size) (h1 : allOne vs = true) (hb : xs.length + vs.length ≤ 1048576) :
   ∃ v' h', (∀ k, append2 el size v n vs h k = k v' h') ∧ Buf h' el size v' (xs ++ vs) ∧ Stay (isOf v) h h' ∧ (∀ id, isOf v' id → isOf v id ∨ B.val h.next ≤ B.val id) ∧ Top h' v' := by
 have hle : n ≤ vs.length := by rw [hn]; exact Nat.le_mul_of_pos_right _ hsz
 rcases b with ⟨rfl, rfl⟩ | ⟨id, g, m, blk, rfl, b1, b2, b3, b4, b5, b6, b7, b8, b9, b10⟩
 · cases n with
   | zero =>
     have : vs = [] := List.eq_nil_of_length_eq_zero (by simpa using hn)
     subst this
     exact ⟨.l0, h, fun k => rfl, Buf.nil h el size, Stay.refl _ h, fun id i => .inl i, fun _ _ _ _ _ _ e => by cases e⟩
   | succ n =>
     obtain ⟨h', a1, a2, a3, blk, c1, c2, c3, c4, c5, c6, c7⟩ := alloc_new el vs h (by omega)
     have hble : Nat.ble (n + 1) 1048576 = true := by rw [Nat.ble_eq]; simp at hb; omega
     refine ⟨.l h.next 0 0 (n + 1) vs.length none, h', fun k => ?_, .inr ⟨h.next, 0, n + 1, blk, rfl, by omega, hn, by rw [a2.floor]; exact hf, by omega, c1, ⟨by omega, by omega⟩, c4, c5, c6, c7⟩, a2.mono fun _ _ h => h.elim, fun id i => ?_, fun _ _ _ _ _ _ e => by cases e; exact ⟨blk, c1, c3⟩⟩
     · show (ifK (Nat.ble (n + 1) 1048576) fun _ => alloc el vs h fun id h => k (.l id 0 0 (n + 1) vs.length none) h) = _
       rw [hble, ifK_true, a1]
     · obtain ⟨_, _, _, _, _, e⟩ := i; cases e; exact .inr (Nat.le_refl _)
 · obtain ⟨next, floor, heap⟩ := h
   obtain ⟨cur, min, sz, cells, bel, fr⟩ := blk
   simp only at b6 b7 b8 b9 b10
   obtain ⟨tr, t1, t2, t3⟩ := setList_fine vs sz cells (by omega)
   obtain ⟨hp, s1, s2, s3⟩ := setK_ok id (⟨Nat.succ cur, min, Nat.add sz (Nat.mul n size), tr, bel, fr⟩ : Blk) heap
   have e1 : Nat.ble min g = true := by rw [Nat.ble_eq]; exact b6.1
   have e2 : B.geB floor id = true := by
     cases floor <;> first | rfl | (show Nat.ble _ _ = true; rw [Nat.ble_eq]; exact b3)
   have e3 : Nat.add 0 (Nat.mul m size) = sz := by
     show 0 + m * size = sz
     omega
   have e3' : Nat.ble sz sz = true := by rw [Nat.ble_eq]; exact Nat.le_refl _
   have e4 : Nat.beq xs.length sz = true := by rw [b7]; simp
   have e4' : Nat.beq sz sz = true := Nat.beq_refl _
   have e9 : capZ size (Nat.add m n) = none := capZ_pos (by show 1 ≤ m + n; omega)
   have e5 : Nat.ble 1 m = true := by rw [Nat.ble_eq]; exact b1
   have hm : m ≤ xs.length := by rw [b2]; exact Nat.le_mul_of_pos_right _ hsz
   have e6 : Nat.ble (Nat.add m n) 1048576 = true := by rw [Nat.ble_eq]; show m + n ≤ 1048576; omega
   have e7 : frOk fr sz = true := by rw [b9]; rfl
   have e8 : Nat.beq bel el = true := by rw [b8]; simp
   refine ⟨.l id (Nat.succ cur) 0 (m + n) (sz + n * size) none, ⟨next, floor, hp⟩, fun k => ?_, .inr ⟨id, Nat.succ cur, m + n, _, ?_, by omega, ?_, b3, b4, s2, ?_, ?_, b8, b9, fun i y hy => ?_⟩, ⟨rfl, Nat.le_refl _, fun id' _ hne => s3 id' fun e => hne (by subst e; exact ⟨_, _, _, _, _, rfl⟩)⟩, fun id' i => ?_, fun _ _ _ _ _ _ e => by cases e; exact ⟨_, s2, rfl⟩⟩
   · show appGrow (Nat.ble 1 m) el id g 0 m xs.length size n vs ⟨next, floor, heap⟩ k = _
     have b5' : heap.get id = some ⟨cur, min, sz, cells, bel, fr⟩ := b5
     simp only [appGrow, hK_mk, b5', optK_some, blkK_mk, fN_eq, e3, e1, e2, e3', e4, e4', selN_t, e5, e6, h1, e7, e8, e9, ifK_true]
     rw [t1, s1]; rfl
   · show V.l id (Nat.succ cur) 0 (m + n) (sz + n * size) none = V.l id (Nat.succ cur) 0 (m + n) (xs ++ vs).length none
     rw [List.length_append, hn, b7]
   · rw [List.length_append, hn, b2, Nat.add_mul]
   · exact ⟨by show min ≤ cur + 1; omega, Nat.le_refl _⟩
   · show Nat.add sz (Nat.mul n size) = (xs ++ vs).length
     rw [List.length_append, hn, b7]; rfl
   · show tr.getN i = some y
     by_cases hi : i < xs.length
     · rw [t3 i (.inl (by omega))]
       refine b10 i y ?_
       rwa [List.getElem?_append_left hi] at hy
     · have hi' : i - xs.length < vs.length := by
         have := (List.getElem?_eq_some_iff.1 hy).1
         simp at this; omega
       rw [List.getElem?_append_right (by omega)] at hy
       have := t2 (i - xs.length) y hy
       rwa [show sz + (i - xs.length) = i by omega] at this
   · obtain ⟨_, _, _, _, _, e⟩ := i; cases e; exact .inl ⟨_, _, _, _, _, rfl⟩
section
variable {P : Program} {S : Spec} {l : List CO} {t : F} {h : H} {K : F → H → Prop}
end
noncomputable def slLoV (size : Nat) (v w : V) (k : V → Bool) : Bool := vL v (fun _ => vI w fun _ n => natK n fun a => ifK (Nat.beq a 0) fun _ => ifK (Nat.beq 0 0) fun _ => k .l0) fun id g off len fin cap => vI w fun _ n => natK n fun a => ifK (Nat.ble a len) fun _ =>
 Option.rec (fun id g off len fin a b k => sliceN size id g off len fin a b fun v => k v) (fun c id g off len fin a b k => boolK (flagB c) (fun _ => ifK (Nat.beq b 0) fun _ => k (.l id g off 0 off (some c))) (fun _ => sliceC size id g off len fin c a b fun v => k v)) cap id g off len fin a len k
noncomputable def slHiV (size : Nat) (v w : V) (k : V → Bool) : Bool := vL v (fun _ => vI w fun _ n => natK n fun b => ifK (Nat.beq 0 0) fun _ => ifK (Nat.beq b 0) fun _ => k .l0) fun id g off len fin cap => vI w fun _ n => natK n fun b => ifK (Nat.ble 0 b) fun _ =>
 Option.rec (fun id g off len fin a b k => sliceN size id g off len fin a b fun v => k v) (fun c id g off len fin a b k => boolK (flagB c) (fun _ => ifK (Nat.beq b 0) fun _ => k (.l id g off 0 off (some c))) (fun _ => sliceC size id g off len fin c a b fun v => k v)) cap id g off len fin 0 b k
section
variable {cf : CallF} {t : F} {h : H} {k : V → H → Bool} {x a : O}
theorem ev_slLo (size : Nat) : doSlice size x (some a) none cf t h k = slLoV size (oV x t) (oV a t) fun v => k v h := by
 unfold slLoV
 simp only [doSlice, oE_eq, boundK]
 congr 1
 funext id g off len fin cap
 congr 1; funext _ n; congr 1; funext a; congr 1; funext _
 cases cap with
 | none => rfl
 | some c =>
   show boolK (flagB c) _ _ = boolK (flagB c) _ _
   cases flagB c <;> rfl
theorem ev_slHi (size : Nat) : doSlice size x none (some a) cf t h k = slHiV size (oV x t) (oV a t) fun v => k v h := by
 unfold slHiV
 simp only [doSlice, oE_eq, boundK]
 congr 1
 funext id g off len fin cap
 congr 1; funext _ n; congr 1; funext a; congr 1; funext _
 cases cap with
 | none => rfl
 | some c =>
   show boolK (flagB c) _ _ = boolK (flagB c) _ _
   cases flagB c <;> rfl
end
def tailV (id : B) (K n : Nat) : V := if n = K then .l id 0 0 0 K (some 0) else .l id 0 n (K - n) K (some (K - n))
theorem slLo_row {id : B} {K n : Nat} {kd : IntKind} (hKM : K < 18446744073709551616) (hn : n ≤ K) (k : V → Bool) : slLoV 1 (.l id 0 0 K K (some K)) (.i kd (n : Int)) k = k (tailV id K n) := by
 have e1 : Nat.ble n K = true := by rw [Nat.ble_eq]; exact hn
 have e2 : Nat.ble K K = true := by rw [Nat.ble_eq]; exact Nat.le_refl _
 unfold slLoV tailV
 simp only [vL_l, vI_i, natK_cast, e1, ifK_true]
 by_cases e : n = K
 · subst e
   rw [if_pos rfl]
   show boolK (flagB n) _ (fun _ => sliceC 1 id 0 0 n n n n n fun v => k v) = _
   rw [flagB_of hKM, boolK_false]
   have e0 : Nat.ble (Nat.succ n) 18446744073709551616 = true := by rw [Nat.ble_eq]; exact hKM
   have e3 : Nat.beq n n = true := Nat.beq_refl n
   unfold sliceC
   rw [e0, ifK_true, e2, ifK_true, e3]
   rfl
 · rw [if_neg e]
   show boolK (flagB K) _ (fun _ => sliceC 1 id 0 0 K K K n K fun v => k v) = _
   rw [flagB_of hKM, boolK_false, sliceC_mid hKM (Nat.le_refl _) (by omega), Nat.zero_add, Nat.mul_one]
theorem slHi_row {id : B} {K n : Nat} {kd : IntKind} (hKM : K < 18446744073709551616) (hn : n ≤ K) (hK : 0 < K) (k : V → Bool) : slHiV 1 (.l id 0 0 K K (some K)) (.i kd (n : Int)) k = k (.l id 0 0 n K (some K)) := by
 have e1 : Nat.ble 0 n = true := by rw [Nat.ble_eq]; exact Nat.zero_le _
 unfold slHiV
 simp only [vL_l, vI_i, natK_cast, e1, ifK_true]
 show boolK (flagB K) _ (fun _ => sliceC 1 id 0 0 K K K 0 n fun v => k v) = _
 rw [flagB_of hKM, boolK_false, sliceC_mid hKM hn hK]
 simp only [Nat.zero_mul, Nat.add_zero, Nat.sub_zero]
end Go.Ev

set_option linter.all false
namespace Go.Ev
open Go
noncomputable def gpJunk (n m : Nat) (v : V) (t : F) : V := get n (put m v t)
theorem get_put' (n m : Nat) (v : V) (t : F) : get n (put m v t) = if n = m then v else if n < 512 ∧ m < 512 then get n t else gpJunk n m v t := by
 by_cases h : n < 512 ∧ m < 512
 · rw [get_put n m v t h.1 h.2, if_pos h]
 · rw [if_neg h]
   by_cases e : n = m
   · subst e
     rw [if_pos rfl]
     exact (Classical.choose_spec (sPut_ok (slOf n) v t)).2.1
   · rw [if_neg e]; rfl
section
variable {P : Program} {h : H} {N : Nx} {kd : IntKind} {a b : Int}
theorem h2_add : H2 P (gBin fAdd) (.i kd a) (.i kd b) h N = N.go P (.i kd (kd.wrap (a + b))) h := hv_of fun k => by show ifK (kdEq kd kd) _ = _; rw [kdEq_self, ifK_true, f_add]
theorem h2_sub : H2 P (gBin fSub) (.i kd a) (.i kd b) h N = N.go P (.i kd (kd.wrap (a - b))) h := hv_of fun k => by show ifK (kdEq kd kd) _ = _; rw [kdEq_self, ifK_true, f_sub]
theorem h2_mul : H2 P (gBin fMul) (.i kd a) (.i kd b) h N = N.go P (.i kd (kd.wrap (a * b))) h := hv_of fun k => by show ifK (kdEq kd kd) _ = _; rw [kdEq_self, ifK_true, f_mul]
theorem h2_lss : H2 P (gBin fLss) (.i kd a) (.i kd b) h N = N.go P (.b (decide (a < b))) h := hv_of fun k => by show ifK (kdEq kd kd) _ = _; rw [kdEq_self, ifK_true, f_lss]
theorem h2_gtr : H2 P (gBin fGtr) (.i kd a) (.i kd b) h N = N.go P (.b (decide (b < a))) h := hv_of fun k => by show ifK (kdEq kd kd) _ = _; rw [kdEq_self, ifK_true, f_gtr]
theorem h2_leq : H2 P (gBin fLeq) (.i kd a) (.i kd b) h N = N.go P (.b (decide (a ≤ b))) h := hv_of fun k => by show ifK (kdEq kd kd) _ = _; rw [kdEq_self, ifK_true, f_leq]
theorem h2_geq : H2 P (gBin fGeq) (.i kd a) (.i kd b) h N = N.go P (.b (decide (b ≤ a))) h := hv_of fun k => by show ifK (kdEq kd kd) _ = _; rw [kdEq_self, ifK_true, f_geq]
theorem h2_eql : H2 P (gBin fEql) (.i kd a) (.i kd b) h N = N.go P (.b (decide (a = b))) h := hv_of fun k => by show ifK (kdEq kd kd) _ = _; rw [kdEq_self, ifK_true, f_eql]
theorem h2_neq : H2 P (gBin fNeq) (.i kd a) (.i kd b) h N = N.go P (.b (!decide (a = b))) h := hv_of fun k => by show ifK (kdEq kd kd) _ = _; rw [kdEq_self, ifK_true, f_neq]
theorem h2_quo (ha : 0 ≤ a) (hb : 0 < b) : H2 P (gBin fQuo) (.i kd a) (.i kd b) h N = N.go P (.i kd (kd.wrap (a / b))) h := hv_of fun k => by
 show ifK (kdEq kd kd) _ = _
 rw [kdEq_self, ifK_true]
 have e : eqI b 0 = false := by rw [eqI_eq]; simp; omega
 unfold fQuo
 rw [e]
 show wrapF (Int.tdiv a b) kd (mxOf kd) k = _
 rw [wrapF_eq, Int.tdiv_eq_ediv_of_nonneg ha]
theorem h2_rem (ha : 0 ≤ a) (hb : 0 < b) : H2 P gRem (.i kd a) (.i kd b) h N = N.go P (.i kd (a % b)) h := hv_of fun k => by
 show ifK (kdEq kd kd) (fun _ => fRem kd a b k) = _
 rw [kdEq_self, ifK_true]
 have e : eqI b 0 = false := by rw [eqI_eq]; simp; omega
 unfold fRem
 rw [e]
 show forceI (Int.tmod a b) (fun n => k (.i kd n)) = _
 rw [forceI_eq, Int.tmod_eq_emod_of_nonneg ha]
theorem h2_and {m : Nat} (hm : mxOf kd = m) (ha : 0 ≤ a) (ha2 : a ≤ m) (hb : 0 ≤ b) (hb2 : b ≤ m) : H2 P (gBin fAnd) (.i kd a) (.i kd b) h N = N.go P (.i kd ((a.toNat &&& b.toNat : Nat) : Int)) h := hv_of fun k => by
 show ifK (kdEq kd kd) _ = _
 rw [kdEq_self, ifK_true]
 obtain ⟨x, rfl⟩ := Int.eq_ofNat_of_zero_le ha
 obtain ⟨y, rfl⟩ := Int.eq_ofNat_of_zero_le hb
 have e1 : Nat.ble x (mxOf kd) = true := by rw [Nat.ble_eq]; omega
 have e2 : Nat.ble y (mxOf kd) = true := by rw [Nat.ble_eq]; omega
 show natK (Int.ofNat x) (fun a => natK (Int.ofNat y) _) = _
 rw [natK_ofNat, natK_ofNat, e1, ifK_true, e2, ifK_true, fN_eq]; rfl
theorem h2_or {m : Nat} (hm : mxOf kd = m) (ha : 0 ≤ a) (ha2 : a ≤ m) (hb : 0 ≤ b) (hb2 : b ≤ m) : H2 P (gBin fOr) (.i kd a) (.i kd b) h N = N.go P (.i kd ((a.toNat ||| b.toNat : Nat) : Int)) h := hv_of fun k => by
 show ifK (kdEq kd kd) _ = _
 rw [kdEq_self, ifK_true]
 obtain ⟨x, rfl⟩ := Int.eq_ofNat_of_zero_le ha
 obtain ⟨y, rfl⟩ := Int.eq_ofNat_of_zero_le hb
 have e1 : Nat.ble x (mxOf kd) = true := by rw [Nat.ble_eq]; omega
 have e2 : Nat.ble y (mxOf kd) = true := by rw [Nat.ble_eq]; omega
 show natK (Int.ofNat x) (fun a => natK (Int.ofNat y) _) = _
 rw [natK_ofNat, natK_ofNat, e1, ifK_true, e2, ifK_true, fN_eq]; rfl
theorem h2_xor {m : Nat} (hm : mxOf kd = m) (ha : 0 ≤ a) (ha2 : a ≤ m) (hb : 0 ≤ b) (hb2 : b ≤ m) : H2 P (gBin fXor) (.i kd a) (.i kd b) h N = N.go P (.i kd ((a.toNat ^^^ b.toNat : Nat) : Int)) h := hv_of fun k => by
 show ifK (kdEq kd kd) _ = _
 rw [kdEq_self, ifK_true]
 obtain ⟨x, rfl⟩ := Int.eq_ofNat_of_zero_le ha
 obtain ⟨y, rfl⟩ := Int.eq_ofNat_of_zero_le hb
 have e1 : Nat.ble x (mxOf kd) = true := by rw [Nat.ble_eq]; omega
 have e2 : Nat.ble y (mxOf kd) = true := by rw [Nat.ble_eq]; omega
 show natK (Int.ofNat x) (fun a => natK (Int.ofNat y) _) = _
 rw [natK_ofNat, natK_ofNat, e1, ifK_true, e2, ifK_true, fN_eq]; rfl
theorem h2_ant {m : Nat} (hm : mxOf kd = m) (ha : 0 ≤ a) (ha2 : a ≤ m) (hb : 0 ≤ b) (hb2 : b ≤ m) : H2 P (gBin fAnt) (.i kd a) (.i kd b) h N = N.go P (.i kd ((a.toNat ^^^ (a.toNat &&& b.toNat) : Nat) : Int)) h := hv_of fun k => by
 show ifK (kdEq kd kd) _ = _
 rw [kdEq_self, ifK_true]
 obtain ⟨x, rfl⟩ := Int.eq_ofNat_of_zero_le ha
 obtain ⟨y, rfl⟩ := Int.eq_ofNat_of_zero_le hb
 have e1 : Nat.ble x (mxOf kd) = true := by rw [Nat.ble_eq]; omega
 have e2 : Nat.ble y (mxOf kd) = true := by rw [Nat.ble_eq]; omega
 show natK (Int.ofNat x) (fun a => natK (Int.ofNat y) _) = _
 rw [natK_ofNat, natK_ofNat, e1, ifK_true, e2, ifK_true, fN_eq]; rfl
theorem h2_shl {kd' : IntKind} (hb : 0 ≤ b) : H2 P (gShift shlF) (.i kd a) (.i kd' b) h N = N.go P (.i kd (kd.wrap (a * ((2 ^ (min b.toNat kd.bits) : Nat) : Int)))) h := hv_of fun k => by
 show natK b _ = _
 rw [natK_nn hb, f_shl]
theorem h2_shr {kd' : IntKind} (hb : 0 ≤ b) : H2 P (gShift shrF) (.i kd a) (.i kd' b) h N = N.go P (.i kd (a / ((2 ^ (min b.toNat kd.bits) : Nat) : Int))) h := hv_of fun k => by
 show natK b _ = _
 rw [natK_nn hb]
 show forceI (Int.fdiv a ((2 ^ _ : Nat) : Int)) (fun n => k (.i kd n)) = _
 rw [forceI_eq, Int.fdiv_eq_ediv_of_nonneg _ (Int.natCast_nonneg _)]
theorem h2_beq {x y : Bool} : H2 P (gBool false) (.b x) (.b y) h N = N.go P (.b (x == y)) h := hv_of fun k => by cases x <;> cases y <;> rfl
theorem h2_bne {x y : Bool} : H2 P (gBool true) (.b x) (.b y) h N = N.go P (.b (x != y)) h := hv_of fun k => by cases x <;> cases y <;> rfl
theorem h1_not {x : Bool} : H1 P gNot (.b x) h N = N.go P (.b (!x)) h := hv_of fun k => rfl
theorem h1_neg : H1 P gNeg (.i kd a) h N = N.go P (.i kd (kd.wrap (-a))) h := hv_of fun k => wrapF_eq _ _ _
theorem h1_conv {kd' : IntKind} : H1 P (gConv kd) (.i kd' a) h N = N.go P (.i kd (kd.wrap a)) h := hv_of fun k => rfl
theorem h1_ext0 {v : V} {vs : List V} : H1 P (gExt 0) (.tu (v :: vs)) h N = N.go P v h := hv_of fun k => rfl
theorem h1_ext1 {u v : V} {vs : List V} : H1 P (gExt 1) (.tu (u :: v :: vs)) h N = N.go P v h := hv_of fun k => rfl
theorem h1_ext2 {u w v : V} {vs : List V} : H1 P (gExt 2) (.tu (u :: w :: v :: vs)) h N = N.go P v h := hv_of fun k => rfl
theorem h1_ext3 {u w z v : V} {vs : List V} : H1 P (gExt 3) (.tu (u :: w :: z :: v :: vs)) h N = N.go P v h := hv_of fun k => rfl
theorem h2_min : H2 P gMin (.i kd a) (.i kd b) h N = N.go P (.i kd (min a b)) h := hv_of fun k => by show ifK (kdEq kd kd) _ = _; rw [kdEq_self, ifK_true]
theorem h2_max : H2 P gMax (.i kd a) (.i kd b) h N = N.go P (.i kd (max a b)) h := hv_of fun k => by show ifK (kdEq kd kd) _ = _; rw [kdEq_self, ifK_true]
theorem h3_pick {q : Bool} {x y : V} : H3 P gPick (.b q) x y h N = N.go P (cond q x y) h := hv_of fun k => rfl
def FDJ (P : Program) (d : Nat) (cs : List V) (h : H) (N : Nx) : Prop := H1 P (gField d) (.a cs) h N
theorem h1_field {d : Nat} {cs : List V} : H1 P (gField d) (.a cs) h N = if d < cs.length then N.go P (cs.getD d .u) h else FDJ P d cs h N := by
 split
 · rename_i hd
   exact hv_of fun k => by
     show optK (cs[d]?) k = _
     rw [show cs[d]? = some (cs.getD d .u) by simp [hd]]; rfl
 · rfl
theorem h1_fieldA {d size : Nat} {cs : List V} : H1 P (gFieldA d size) (.a cs) h N = N.go P (.a ((cs.drop d).take size)) h := hv_of fun k => rfl
theorem h1_fieldAddr {d : Nat} {id : B} {g off fin : Nat} : H1 P (gFieldAddr d) (.p id g off fin) h N = N.go P (.p id g (off + d) fin) h := hv_of fun k => rfl
theorem h1_nilCheck {id : B} {g off fin : Nat} : H1 P gNilCheck (.p id g off fin) h N = N.go P (.p id g off fin) h := hv_of fun k => rfl
def IX (P : Program) (size : Nat) (v : V) (i : Nat) (h : H) (N : Nx) : Prop := HV P (idxV size v i) h N
theorem h2_idx {size : Nat} {v : V} (ha : 0 ≤ a) : H2 P (gIndex size) v (.i kd a) h N = IX P size v a.toNat h N := by
 unfold H2 IX
 congr 1
 funext k
 show natK a _ = _
 rw [natK_nn ha]
theorem ix_l {size i : Nat} {id : B} {g off len fin : Nat} {cap : Option Nat} (hi : i < len) : IX P size (.l id g off len fin cap) i h N = N.go P (.p id g (off + i * size) fin) h := hv_of fun k => by
 show ifK (Nat.ble (i + 1) len) (fun _ => k (.p id g (off + i * size) fin)) = _
 have : Nat.ble (i + 1) len = true := by rw [Nat.ble_eq]; exact hi
 rw [this, ifK_true]
theorem h2_idxArr {len size : Nat} {id : B} {g off fin : Nat} (ha : 0 ≤ a) (hl : a < len) : H2 P (gIndexArr len size) (.p id g off fin) (.i kd a) h N = N.go P (.p id g (off + a.toNat * size) fin) h := hv_of fun k => by
 show natK a _ = _
 rw [natK_nn ha, arrIx (by omega)]
theorem gLen_l0 : H1 P gLen .l0 h N = N.go P (.i .i64 0) h := hv_of fun k => rfl
theorem gLen_l {id : B} {g off len fin : Nat} {cap : Option Nat} : H1 P gLen (.l id g off len fin cap) h N = N.go P (.i .i64 (len : Int)) h := hv_of fun k => rfl
theorem h1_lenS {l : List UInt8} : H1 P gLenS (sv l) h N = N.go P (.i .i64 (l.length : Int)) h := hv_of fun k => rfl
theorem h2_sindex {l : List UInt8} (ha : 0 ≤ a) (hl : a < l.length) : H2 P gSIndex (sv l) (.i kd a) h N = N.go P (.i .u8 ((l.getD a.toNat 0).toNat : Int)) h := hv_of fun k => by
 show natK a _ = _
 rw [natK_nn ha, sixV_sv (by omega)]
theorem h2_aindex {len size : Nat} {cs : List V} (ha : 0 ≤ a) (hl : a < len) (hc : a.toNat * size < cs.length) : H2 P (gAIndex len size) (.a cs) (.i kd a) h N = N.go P (cs.getD (a.toNat * size) .u) h := hv_of fun k => by
 show natK a _ = _
 have : Nat.ble (a.toNat + 1) len = true := by rw [Nat.ble_eq]; omega
 rw [natK_nn ha]
 show ifK (Nat.ble (a.toNat + 1) len) (fun _ => optK (cs[a.toNat * size]?) k) = _
 rw [this, ifK_true, show cs[a.toNat * size]? = some (cs.getD (a.toNat * size) .u) by simp [hc]]; rfl
theorem h2_cat {x y : List UInt8} (hl : x.length + y.length ≤ 1048576) : H2 P catV (sv x) (sv y) h N = N.go P (sv (x ++ y)) h := hv_of fun k => catV_sv hl k
theorem h2_seq {x y : List UInt8} : H2 P (scV eqS) (sv x) (sv y) h N = N.go P (.b (decide (x = y))) h := hv_of fun k => scV_eq x y k
theorem h2_sne {x y : List UInt8} : H2 P (scV fun a b c d => !eqS a b c d) (sv x) (sv y) h N = N.go P (.b (!decide (x = y))) h := hv_of fun k => scV_ne x y k
theorem h2_cmpS {x y : List UInt8} : H2 P cmV (sv x) (sv y) h N = N.go P (.i .i64 (cmpI (decide (x = y)) (Op.bytesLess x y))) h := hv_of fun k => cmV_sv x y k
theorem h2_slt {x y : List UInt8} : H2 P (scV ltS) (sv x) (sv y) h N = N.go P (.b (Op.bytesLess x y)) h := hv_of fun k => scV_lt x y k
theorem h2_sge {x y : List UInt8} : H2 P (scV fun a b c d => !ltS a b c d) (sv x) (sv y) h N = N.go P (.b (!Op.bytesLess x y)) h := hv_of fun k => by
 unfold scV; rw [vS_sv, vS_sv, bytesLess_pk]
theorem h2_sle {x y : List UInt8} : H2 P (scV fun a b c d => ltS a b c d || eqS a b c d) (sv x) (sv y) h N = N.go P (.b (Op.bytesLess x y || decide (x = y))) h := hv_of fun k => by
 unfold scV; rw [vS_sv, vS_sv]; show k (.b (ltS x.length (pk x) y.length (pk y) || eqS x.length (pk x) y.length (pk y))) = _; rw [eqS_sv, bytesLess_pk]
theorem h2_sgt {x y : List UInt8} : H2 P (scV fun a b c d => !(ltS a b c d || eqS a b c d)) (sv x) (sv y) h N = N.go P (.b (!(Op.bytesLess x y || decide (x = y)))) h := hv_of fun k => by
 unfold scV; rw [vS_sv, vS_sv]; show k (.b (!(ltS x.length (pk x) y.length (pk y) || eqS x.length (pk x) y.length (pk y)))) = _; rw [eqS_sv, bytesLess_pk]
theorem h3_ss2 {l : List UInt8} {kd' : IntKind} (ha : 0 ≤ a) (hab : a ≤ b) (hb : b ≤ l.length) : H3 P gSS2 (sv l) (.i kd a) (.i kd' b) h N = N.go P (sv ((l.take b.toNat).drop a.toNat)) h := hv_of fun k => by
 show natK a (fun p => natK b fun q => ssV (sv l) p q k) = _
 rw [natK_nn ha, natK_nn (by omega), ssV_sv (by omega) (by omega)]
theorem h2_ss1 {l : List UInt8} (ha : 0 ≤ a) (hb : a ≤ l.length) : H2 P gSS1 (sv l) (.i kd a) h N = N.go P (sv (l.take a.toNat)) h := hv_of fun k => by
 show natK a (fun q => ssV (sv l) 0 q k) = _
 rw [natK_nn ha, ssV_sv (by omega) (by omega), List.drop_zero]
theorem h2_ssa {l : List UInt8} (ha : 0 ≤ a) (hb : a ≤ l.length) : H2 P gSSa (sv l) (.i kd a) h N = N.go P (sv (l.drop a.toNat)) h := hv_of fun k => by
 show natK a (fun p => ssaV (sv l) p k) = _
 rw [natK_nn ha, ssaV_sv (by omega)]
theorem h1_moveS {l : List UInt8} : H1 P gMoveS (sv l) h N = N.go P (sv l) h := hv_of fun k => rfl
theorem h2_nilL0 {ne : Bool} : H2 P (gNil vLN ne) .l0 .l0 h N = N.go P (.b (!ne)) h := hv_of fun k => by cases ne <;> rfl
theorem h2_nilL1 {ne : Bool} {id : B} {g off len fin : Nat} {cap : Option Nat} : H2 P (gNil vLN ne) (.l id g off len fin cap) .l0 h N = N.go P (.b ne) h := hv_of fun k => by cases ne <;> rfl
theorem h2_nilP0 {ne : Bool} : H2 P (gNil vPN ne) .p0 .p0 h N = N.go P (.b (!ne)) h := hv_of fun k => by cases ne <;> rfl
theorem h2_nilP1 {ne : Bool} {id : B} {g off fin : Nat} : H2 P (gNil vPN ne) (.p id g off fin) .p0 h N = N.go P (.b ne) h := hv_of fun k => by cases ne <;> rfl
end
noncomputable def gI2S (x : V) (k : V → Bool) : Bool := vI x fun _ n => natK n fun n => ifK (Nat.ble n 127) fun _ => k (.s 1 n)
theorem or_i2s {P : Program} {t : F} {h : H} {N : Nx} (x : O) : OR P (doI2S x) t h N = H1 P gI2S (oV x t) h N := or_hv fun cf k => by simp only [doI2S, oE_eq]; rfl
theorem sv_one {k : Nat} (h : k < 256) : V.s 1 k = sv [UInt8.ofNat k] := by
 unfold sv
 have : (UInt8.ofNat k).toNat = k := by simp; omega
 simp [pk, this]
theorem h1_i2s {P : Program} {h : H} {N : Nx} {kd : IntKind} {a : Int} (ha : 0 ≤ a) (hb : a ≤ 127) : H1 P gI2S (.i kd a) h N = N.go P (sv [UInt8.ofNat a.toNat]) h := hv_of fun k => by
 show natK a _ = _
 have e : Nat.ble a.toNat 127 = true := by rw [Nat.ble_eq]; omega
 rw [natK_nn ha, e, ifK_true, sv_one (by omega)]
def LD (P : Program) (v : V) (h : H) (N : Nx) : Prop := HV P (fun k => vP v fun id g off fin => load1 h id g off fin k) h N
def LA (P : Program) (size : Nat) (v : V) (h : H) (N : Nx) : Prop := HV P (fun k => vP v fun id g off fin => loadN h id g off fin size fun vs => k (.a vs)) h N
def L1 (P : Program) (id : B) (g off fin : Nat) (h : H) (N : Nx) : Prop := HV P (load1 h id g off fin) h N
def LN (P : Program) (id : B) (g off fin size : Nat) (h : H) (N : Nx) : Prop := HV P (fun k => loadN h id g off fin size fun vs => k (.a vs)) h N
def BS (P : Program) (v : V) (h : H) (N : Nx) : Prop := HV P (b2sV h v) h N
section
variable {P : Program} {t : F} {h : H} {N : Nx} {o x : O} {id : B} {g off fin size : Nat}
theorem or_load : OR P (doLoad o) t h N = LD P (oV o t) h N := or_hv fun cf k => ev_load ..
theorem or_loadA : OR P (doLoadA size o) t h N = LA P size (oV o t) h N := or_hv fun cf k => ev_loadA ..
theorem or_b2s : OR P (doB2S x) t h N = BS P (oV x t) h N := or_hv fun cf k => ev_b2s ..
theorem ld_p : LD P (.p id g off fin) h N = L1 P id g off fin h N := rfl
theorem la_p : LA P size (.p id g off fin) h N = LN P id g off fin size h N := rfl
theorem loadRe {h : H} (k : V → Bool) : load1 (reFloor h) id g off fin k = load1 h id g off fin k := by cases h; rfl
section
variable {n : Nat} {l : List CO} {K : F → H → Prop} {v : V}
theorem l1_re : L1 P id g off fin (reFloor h) (.u n l t h K) = L1 P id g off fin h (.d n l t K) := by
 unfold L1 HV
 simp only [loadRe, go_u, go_d, unFloor_re]
theorem ln_re : LN P id g off fin size (reFloor h) (.u n l t h K) = LN P id g off fin size h (.d n l t K) := by
 have e : ∀ k : List V → Bool, loadN (reFloor h) id g off fin size k = loadN h id g off fin size k := fun k => by cases h; rfl
 unfold LN HV
 simp only [e, go_u, go_d, unFloor_re]
theorem bs_re : BS P v (reFloor h) (.u n l t h K) = BS P v h (.d n l t K) := by
 have e : b2sV (reFloor h) v = b2sV h v := by cases h; rfl
 unfold BS HV
 simp only [e, go_u, go_d, unFloor_re]
end
theorem Row.l1 {xs : List V} (r : Row h id g 0 xs) (hi : off < xs.length) (hf : off < fin) : L1 P id g off fin h N = N.go P (xs.getD off .u) h := hv_of fun k =>
 load1_cell (by have := r.2 off (xs.getD off .u) (by simp [hi]); rwa [Nat.zero_add] at this) hf k
theorem Lst.ln {h0 : H} {v : V} {xs : List V} (a : Lst h0 v xs) : H1 P gLen v h N = N.go P (.i .i64 (xs.length : Int)) h := hv_of fun k => by unfold gLen; rw [a.len]
theorem Il.ln {h0 : H} {v : V} {xs : List Int} (a : Il h0 v xs) : H1 P gLen v h N = N.go P (.i .i64 (xs.length : Int)) h := by rw [Lst.ln a, List.length_map]
theorem Il.ix {h0 : H} {v : V} {xs : List Int} {i : Nat} (a : Il h0 v xs) (hi : i < xs.length) : IX P 1 v i h N = N.go P (.p (lid v) (lg v) (loff v + i) (lfin v)) h := hv_of fun k => a.idx hi k
theorem Il.ld {v : V} {xs : List Int} {i : Nat} (a : Il h v xs) (hi : i < xs.length) : L1 P (lid v) (lg v) (loff v + i) (lfin v) h N = N.go P (.i .i64 (xs.getD i 0)) h := hv_of fun k => a.rd hi k
end
noncomputable def gSEq (ks : List KD) (ne : Bool) (x y : V) (k : V → Bool) : Bool := vA x fun xs => vA y fun ys => eqL ks xs ys fun r => k (.b (xor ne r))
section
variable {P : Program} {t : F} {h : H} {N : Nx} {ks : List KD} {ne : Bool} {kd : IntKind}
theorem or_sEq {x y : O} : OR P (doSEq ks ne x y) t h N = H2 P (gSEq ks ne) (oV x t) (oV y t) h N := or_hv fun cf k => by simp only [doSEq, oE_eq, fB_eq]; rfl
theorem eqL_s {a b : List UInt8} {xs ys : List V} {k : Bool → Bool} : eqL (.s :: ks) (sv a :: xs) (sv b :: ys) k = if a = b then eqL ks xs ys k else k false := by
 show boolK (eqS a.length (pk a) b.length (pk b)) (fun _ => (fun r => boolK r (fun _ => eqL ks xs ys k) (fun _ => k false)) true) (fun _ => (fun r => boolK r (fun _ => eqL ks xs ys k) (fun _ => k false)) false) = _
 rw [eqS_sv]
 by_cases e : a = b
 · rw [if_pos e, decide_eq_true e]; rfl
 · rw [if_neg e, decide_eq_false e]; rfl
theorem eqL_i {a b : Int} {xs ys : List V} {k : Bool → Bool} : eqL (.i :: ks) (.i kd a :: xs) (.i kd b :: ys) k = if a = b then eqL ks xs ys k else k false := by
 show ifK (kdEq kd kd) (fun _ => boolK (eqI a b) (fun _ => (fun r => boolK r (fun _ => eqL ks xs ys k) (fun _ => k false)) true) (fun _ => (fun r => boolK r (fun _ => eqL ks xs ys k) (fun _ => k false)) false)) = _
 rw [kdEq_self, ifK_true, eqI_eq]
 by_cases e : a = b
 · rw [if_pos e, show (a == b) = true by simpa using e]; rfl
 · rw [if_neg e, show (a == b) = false by simpa using e]; rfl
theorem eqL_b {a b : Bool} {xs ys : List V} {k : Bool → Bool} : eqL (.b :: ks) (.b a :: xs) (.b b :: ys) k = if a = b then eqL ks xs ys k else k false := by
 cases a <;> cases b <;> rfl
theorem eqL_n {xs ys : List V} {k : Bool → Bool} : eqL [] xs ys k = k true := rfl
theorem h2_sE {a b v w : List UInt8} {n m : Int} {d e : Bool} : H2 P (gSEq [.s, .i, .b, .s] ne) (.a [sv a, .i kd n, .b d, sv v]) (.a [sv b, .i kd m, .b e, sv w]) h N = N.go P (.b (xor ne (decide (a = b ∧ n = m ∧ d = e ∧ v = w)))) h := hv_of fun k => by
 unfold gSEq; rw [vA_a, vA_a]
 rw [eqL_s, eqL_i, eqL_b, eqL_s, eqL_n]
 by_cases h1 : a = b <;> by_cases h2 : n = m <;> by_cases h3 : d = e <;> by_cases h4 : v = w <;> simp [h1, h2, h3, h4]
theorem h2_sW {a b v w : List UInt8} {d e : Bool} : H2 P (gSEq [.s, .b, .s] ne) (.a [sv a, .b d, sv v]) (.a [sv b, .b e, sv w]) h N = N.go P (.b (xor ne (decide (a = b ∧ d = e ∧ v = w)))) h := hv_of fun k => by
 unfold gSEq; rw [vA_a, vA_a]
 rw [eqL_s, eqL_b, eqL_s, eqL_n]
 by_cases h1 : a = b <;> by_cases h3 : d = e <;> by_cases h4 : v = w <;> simp [h1, h3, h4]
theorem h2_sP {a b v w : List UInt8} : H2 P (gSEq [.s, .s] ne) (.a [sv a, sv v]) (.a [sv b, sv w]) h N = N.go P (.b (xor ne (decide (a = b ∧ v = w)))) h := hv_of fun k => by
 unfold gSEq; rw [vA_a, vA_a]
 rw [eqL_s, eqL_s, eqL_n]
 by_cases h1 : a = b <;> by_cases h4 : v = w <;> simp [h1, h4]
end
def HM (P : Program) (g : (V → H → Bool) → Bool) (N : Nx) : Prop := ∃ v h', (∀ k, g k = k v h') ∧ N.go P v h'
theorem or_hm {P : Program} {r : Run} {t : F} {h : H} {N : Nx} {g : (V → H → Bool) → Bool} (e : ∀ cf k, r cf t h k = g k) : OR P r t h N = HM P g N :=
 propext ⟨fun ⟨v, h', ⟨cf, _, c2⟩, k⟩ => ⟨v, h', fun k => (e cf k).symm.trans (c2 k), k⟩, fun ⟨v, h', c, k⟩ => ⟨v, h', ⟨_, cfSome P, fun k => (e _ k).trans (c k)⟩, k⟩⟩
theorem hm_of {P : Program} {g : (V → H → Bool) → Bool} {N : Nx} {v : V} {h' : H} (e : ∀ k, g k = k v h') (k : N.go P v h') : HM P g N := ⟨v, h', e, k⟩
def AL (P : Program) (el : Nat) (cs : List V) (mk : B → V) (h : H) (N : Nx) : Prop := HM P (fun k => alloc el cs h fun id h' => k (mk id) h') N
theorem AL.own {P : Program} {el : Nat} {cs : List V} {mk : B → V} {h : H} {N : Nx} (hl : cs.length < 2 ^ 37) (hf : B.val h.floor ≤ B.val h.next)
   (k : ∀ h', Stay nowhere h h' → B.val h'.next = B.val h.next + 1 → Own h' h.next cs → N.go P (mk h.next) h') : AL P el cs mk h N := by
 obtain ⟨h', a1, a2, a3, a4⟩ := alloc_own el cs h hl hf
 exact hm_of (fun k => a1 _) (k h' a2 a4 a3)
theorem AL.ownE {P : Program} {el : Nat} {cs : List V} {mk : B → V} {h : H} {N : Nx} (hl : cs.length < 2 ^ 37) (hf : B.val h.floor ≤ B.val h.next)
   (k : ∀ h', Stay nowhere h h' → B.val h'.next = B.val h.next + 1 → OwnE h' h.next el cs → N.go P (mk h.next) h') : AL P el cs mk h N := by
 obtain ⟨h', a1, a2, a3, blk, b1, b2, b3, b4, b5, b6, b7⟩ := alloc_new el cs h (by omega)
 exact hm_of (fun k => a1 _) (k h' a2 a3 ⟨blk, b1, b3, b2, b6, b5, by rw [a2.floor]; exact hf, by omega, b7⟩)
def FL (P : Program) (ps : List Pt) (t : F) (cs : List V) (el : Option (Nat × Nat)) (h : H) (N : Nx) : Prop := match el with
 | none => HM P (fun k => fillL ps t cs fun ds => k (.a ds) h) N
 | some (el, len) => HM P (fun k => fillL ps t cs fun ds => alloc el ds h fun id h' => k (.l id 0 0 len ds.length (some len)) h') N
def FP (P : Program) (off size : Nat) (v : V) (ps : List Pt) (t : F) (cs : List V) (el : Option (Nat × Nat)) (h : H) (N : Nx) : Prop := match el with
 | none => HM P (fun k => fillP off size (fillL ps) t cs (fun ds => k (.a ds) h) v) N
 | some (el, len) => HM P (fun k => fillP off size (fillL ps) t cs (fun ds => alloc el ds h fun id h' => k (.l id 0 0 len ds.length (some len)) h') v) N
def BX (P : Program) (el : Nat) (v : V) (h : H) (N : Nx) : Prop := HM P (fun k => ifK (knownV v) fun _ => alloc el (cells v) h fun id h => k (.p id 0 0 (cells v).length) h) N
def ST (P : Program) (size : Nat) (p x : V) (h : H) (N : Nx) : Prop := HM P (fun k => vP p fun id g off fin => ifK (Nat.beq (cells x).length size) fun _ => store h id g off fin (cells x) fun h => k (.tu []) h) N
def MS (P : Program) (el : Nat) (z : List V) (l c : V) (h : H) (N : Nx) : Prop := HM P (fun k => vI l fun _ l => natK l fun l => vI c fun _ c => natK c fun c => ifK (Nat.ble l c) fun _ => ifK (Nat.ble c 1048576) fun _ => alloc el (repL z c) h fun id h => k (.l id 0 0 l (Nat.mul c z.length) (some c)) h) N
def AP (P : Program) (el size : Nat) (s x : V) (h : H) (N : Nx) : Prop := HM P (fun k => newCells size x h fun n vs => append2 el size s n vs h k) N
def AS (P : Program) (el : Nat) (s x : V) (h : H) (N : Nx) : Prop := HM P (fun k => newCellsS x fun n vs => append2 el 1 s n vs h k) N
def CP (P : Program) (size : Nat) (x y : V) (h : H) (N : Nx) : Prop := HM P (fun k => vL x (fun _ => copy0 y (k (.i .i64 (.ofNat 0)) h)) fun id g off len fin _ => copyTo size y h k id g off len fin) N
def SB (P : Program) (el : Nat) (x : V) (h : H) (N : Nx) : Prop := HM P (fun k => vS x fun l n => ifK (Nat.ble l 1048576) fun _ => unpK l n [] fun vs => alloc el vs h fun id h => markK h id fun h => k (.l id 0 0 l l (capF l)) h) N
section
variable {P : Program} {t : F} {h : H} {N : Nx} {o x y l c s : O} {el len size : Nat} {z : List V} {ps : List Pt}
theorem or_alloc : OR P (doAlloc el z) t h N = AL P el z (fun id => .p id 0 0 z.length) h N := or_hm fun cf k => rfl
theorem or_box : OR P (doBox el o) t h N = BX P el (oV o t) h N := or_hm fun cf k => by simp only [doBox, oK_eq]
theorem or_buildSlice : OR P (doBuildSlice el len z ps) t h N = FL P ps t z (some (el, len)) h N := or_hm fun cf k => rfl
theorem or_build : OR P (doBuild z ps) t h N = FL P ps t z none h N := or_hm fun cf k => rfl
theorem or_store : OR P (doStore size o x) t h N = ST P size (oV o t) (oV x t) h N := or_hm fun cf k => by simp only [doStore, oE_eq, oK_eq]
theorem or_makeSlice : OR P (doMakeSlice el z l c) t h N = MS P el z (oV l t) (oV c t) h N := or_hm fun cf k => by
 have no : ∀ u : V, (vI u fun _ n => natK n fun _ => false) = false := no1
 simp only [doMakeSlice, oE_eq]
theorem or_append : OR P (doAppend el size s x) t h N = AP P el size (oV s t) (oV x t) h N := or_hm fun cf k => by simp only [doAppend, oK_eq]
theorem or_appendS : OR P (doAppendS el s x) t h N = AS P el (oV s t) (oV x t) h N := or_hm fun cf k => by simp only [doAppendS, oK_eq]
def CPS (P : Program) (x y : V) (h : H) (N : Nx) : Prop := HM P (fun k => vL x (fun _ => false) fun id g off len fin _ => natC len (fun _ => false) fun _ => copyToS y h k id g off len fin) N
theorem or_copyS {P : Program} {x y : O} {t : F} {h : H} {N : Nx} : OR P (doCopyS x y) t h N = CPS P (oV x t) (oV y t) h N := or_hm fun cf k => by simp only [doCopyS, oK_eq]
theorem or_copy : OR P (doCopy size x y) t h N = CP P size (oV x t) (oV y t) h N := or_hm fun cf k => by simp only [doCopy, oK_eq]
theorem or_s2b : OR P (doS2B el x) t h N = SB P el (oV x t) h N := or_hm fun cf k => by simp only [doS2B, oE_eq]
theorem fl_n : FL P [] t z none h N = N.go P (.a z) h := propext ⟨fun ⟨v, h', e, k⟩ => by obtain ⟨rfl, rfl⟩ := vh_of e; exact k, fun k => ⟨_, _, fun _ => rfl, k⟩⟩
theorem fl_s : FL P [] t z (some (el, len)) h N = AL P el z (fun id => .l id 0 0 len z.length (some len)) h N := rfl
theorem fl_c {e : Option (Nat × Nat)} {off size : Nat} : FL P (Pt.mk off size o :: ps) t z e h N = FP P off size (oV o t) ps t z e h N := by
 have e0 : ∀ k, fillL (⟨off, size, o⟩ :: ps) t z k = fillP off size (fillL ps) t z k (oV o t) := fun k => by show oK o t _ = _; rw [oK_eq]; rfl
 unfold FL FP
 simp only [e0]
theorem fp_of {e : Option (Nat × Nat)} {off size : Nat} {v : V} {cs : List V} (hk : knownV v = true) (hc : cells v = cs) (hs : cs.length = size) (hb : off + size ≤ z.length) : FP P off size v ps t z e h N = FL P ps t (z.take off ++ (cs ++ z.drop (off + size))) e h N := by
 have e0 : ∀ k, fillP off size (fillL ps) t z k v = fillL ps t (z.take off ++ (cs ++ z.drop (off + size))) k := fun k => by
   have h1 : Nat.beq (cells v).length size = true := by rw [hc, hs]; exact Nat.beq_refl _
   have h2 : Nat.ble (Nat.add off size) z.length = true := by rw [Nat.ble_eq]; exact hb
   unfold fillP
   rw [hk, ifK_true, h1, ifK_true, h2, ifK_true, hc]
   unfold putAt
   rw [app_eq, app_eq, hs]
 unfold FP FL
 simp only [e0]
section
variable {e : Option (Nat × Nat)} {off : Nat}
def FPJ (P : Program) (off size : Nat) (v : V) (ps : List Pt) (t : F) (cs : List V) (el : Option (Nat × Nat)) (h : H) (N : Nx) : Prop := FP P off size v ps t cs el h N
theorem fp_at {size : Nat} {v : V} {cs : List V} (hk : knownV v = true) (hc : cells v = cs) (hs : cs.length = size) : FP P off size v ps t z e h N = if off + size ≤ z.length then FL P ps t (z.take off ++ (cs ++ z.drop (off + size))) e h N else FPJ P off size v ps t z e h N := by
 split
 · rename_i hb; exact fp_of hk hc hs hb
 · rfl
theorem fp_i {kd : IntKind} {a : Int} : FP P off 1 (.i kd a) ps t z e h N = if off + 1 ≤ z.length then FL P ps t (z.take off ++ (.i kd a :: z.drop (off + 1))) e h N else FPJ P off 1 (.i kd a) ps t z e h N := fp_at (cs := [.i kd a]) rfl rfl rfl
theorem fp_b {q : Bool} : FP P off 1 (.b q) ps t z e h N = if off + 1 ≤ z.length then FL P ps t (z.take off ++ (.b q :: z.drop (off + 1))) e h N else FPJ P off 1 (.b q) ps t z e h N := fp_at (cs := [.b q]) rfl rfl rfl
theorem fp_sv {s : List UInt8} : FP P off 1 (sv s) ps t z e h N = if off + 1 ≤ z.length then FL P ps t (z.take off ++ (sv s :: z.drop (off + 1))) e h N else FPJ P off 1 (sv s) ps t z e h N := fp_at (cs := [sv s]) rfl rfl rfl
theorem fp_p {id : B} {g o fin : Nat} : FP P off 1 (.p id g o fin) ps t z e h N = if off + 1 ≤ z.length then FL P ps t (z.take off ++ (.p id g o fin :: z.drop (off + 1))) e h N else FPJ P off 1 (.p id g o fin) ps t z e h N := fp_at (cs := [.p id g o fin]) rfl rfl rfl
theorem fp_l {id : B} {g o len fin : Nat} {cap : Option Nat} : FP P off 1 (.l id g o len fin cap) ps t z e h N = if off + 1 ≤ z.length then FL P ps t (z.take off ++ (.l id g o len fin cap :: z.drop (off + 1))) e h N else FPJ P off 1 (.l id g o len fin cap) ps t z e h N := fp_at (cs := [.l id g o len fin cap]) rfl rfl rfl
theorem fp_l0 : FP P off 1 .l0 ps t z e h N = if off + 1 ≤ z.length then FL P ps t (z.take off ++ (.l0 :: z.drop (off + 1))) e h N else FPJ P off 1 .l0 ps t z e h N := fp_at (cs := [.l0]) rfl rfl rfl
theorem fp_a {size : Nat} {cs : List V} : FP P off size (.a cs) ps t z e h N = if cs.length = size ∧ off + size ≤ z.length then FL P ps t (z.take off ++ (cs ++ z.drop (off + size))) e h N else FPJ P off size (.a cs) ps t z e h N := by
 split
 · rename_i hb; exact fp_of rfl rfl hb.1 hb.2
 · rfl
end
theorem bx_i {kd : IntKind} {a : Int} : BX P el (.i kd a) h N = AL P el [.i kd a] (fun id => .p id 0 0 1) h N := rfl
theorem bx_b {q : Bool} : BX P el (.b q) h N = AL P el [.b q] (fun id => .p id 0 0 1) h N := rfl
theorem bx_sv {s : List UInt8} : BX P el (sv s) h N = AL P el [sv s] (fun id => .p id 0 0 1) h N := rfl
theorem bx_a {cs : List V} : BX P el (.a cs) h N = AL P el cs (fun id => .p id 0 0 cs.length) h N := rfl
theorem bx_p {id : B} {g o fin : Nat} : BX P el (.p id g o fin) h N = AL P el [.p id g o fin] (fun id => .p id 0 0 1) h N := rfl
theorem bx_l {id : B} {g o len fin : Nat} {cap : Option Nat} : BX P el (.l id g o len fin cap) h N = AL P el [.l id g o len fin cap] (fun id => .p id 0 0 1) h N := rfl
theorem bx_l0 : BX P el .l0 h N = AL P el [.l0] (fun id => .p id 0 0 1) h N := rfl
theorem ms_i {kd kd' : IntKind} {a b : Int} (h1 : 0 ≤ a) (h2 : a ≤ b) (h3 : b ≤ 1048576) : MS P el z (.i kd a) (.i kd' b) h N = AL P el (repL z b.toNat) (fun id => .l id 0 0 a.toNat (b.toNat * z.length) (some b.toNat)) h N := by
 have e1 : Nat.ble a.toNat b.toNat = true := by rw [Nat.ble_eq]; omega
 have e2 : Nat.ble b.toNat 1048576 = true := by rw [Nat.ble_eq]; omega
 have e : ∀ k : V → H → Bool, (vI (.i kd a) fun _ l => natK l fun l => vI (.i kd' b) fun _ c => natK c fun c => ifK (Nat.ble l c) fun _ => ifK (Nat.ble c 1048576) fun _ => alloc el (repL z c) h fun id h => k (.l id 0 0 l (Nat.mul c z.length) (some c)) h) =
     alloc el (repL z b.toNat) h fun id h => k (.l id 0 0 a.toNat (b.toNat * z.length) (some b.toNat)) h := fun k => by
   simp only [vI_i, natK_nn h1, natK_nn (Int.le_trans h1 h2), e1, e2, ifK_true]; rfl
 unfold MS AL
 simp only [e]
end
section
variable {P : Program} {h : H} {N : Nx} {id : B} {xs : List V} {j fin : Nat} {x y : V}
theorem ST.own (o : Own h id xs) (hc : cells x = [y]) (h1 : oneV y = true) (hj : j < fin) (hfit : j < 2 ^ 37) (k : ∀ h', Own h' id (xs.set j y) → Stay (fun i => i = id) h h' → N.go P (.tu []) h') : ST P 1 (.p id 0 j fin) x h N := by
 obtain ⟨h', a1, a2, a3⟩ := store_own o hj hfit h1
 refine hm_of (v := .tu []) (h' := h') (fun k => ?_) (k h' a2 a3)
 show ifK (Nat.beq (cells x).length 1) (fun _ => store h id 0 j fin (cells x) fun h => k (.tu []) h) = _
 rw [hc]
 show store h id 0 j fin [y] (fun h => k (.tu []) h) = _
 rw [a1]
end
section
variable {P : Program} {t : F} {h : H} {K : F → H → Prop} {l : List CO} {N : Nx} {el n m lo : Nat} {s : O} {v y : V} {xs : List V} {id : B}
theorem AP.buf {size cnt : Nat} {x : V} {vs : List V} (b : Buf h el size v xs) (hx : ∀ k : Nat → List V → Bool, newCells size x h k = k cnt vs) (hf : B.val h.floor ≤ B.val h.next) (hsz : 1 ≤ size) (hn : vs.length = cnt * size) (h1 : allOne vs = true) (hb : xs.length + vs.length ≤ 1048576)
   (k : ∀ v' h', Buf h' el size v' (xs ++ vs) → Stay (isOf v) h h' → (∀ i, isOf v' i → isOf v i ∨ B.val h.next ≤ B.val i) → Top h' v' → N.go P v' h') : AP P el size v x h N := by
 obtain ⟨v', h', a1, a2, a3, a4, a5⟩ := append_top b hf hsz hn h1 hb
 exact hm_of (v := v') (h' := h') (fun k => by rw [hx, a1]) (k v' h' a2 a3 a4 a5)
theorem new_row {size : Nat} {fin cnt : Nat} {cap : Option Nat} {vs : List V} (r : Row h id 0 0 vs) (hn : vs.length = cnt * size) (hc : 1 ≤ cnt) (hs : 1 ≤ size) (hfin : vs.length ≤ fin) (k : Nat → List V → Bool) : newCells size (.l id 0 0 cnt fin cap) h k = k cnt vs := by
 obtain ⟨c, rfl⟩ : ∃ c, cnt = c + 1 := ⟨cnt - 1, by omega⟩
 have hne : vs ≠ [] := by
   intro e; subst e
   have := Nat.mul_le_mul hc hs
   simp at hn; omega
 show loadN h id 0 0 fin (Nat.mul (c + 1) size) (fun vs => k (c + 1) vs) = _
 rw [show Nat.mul (c + 1) size = vs.length by rw [hn]; rfl, loadN_row r rfl hne (by omega)]
end
section
variable {P : Program} {t : F} {h : H} {N : Nx} {x a : O} {id : B} {n K size : Nat} {kd : IntKind} {z : Int}
theorem or_slLo : OR P (doSlice size x (some a) none) t h N = H2 P (slLoV size) (oV x t) (oV a t) h N := or_hv fun cf k => ev_slLo ..
theorem or_slHi : OR P (doSlice size x none (some a)) t h N = H2 P (slHiV size) (oV x t) (oV a t) h N := or_hv fun cf k => ev_slHi ..
noncomputable def slBoV (size : Nat) (v w z : V) (k : V → Bool) : Bool := vL v (fun _ => vI w fun _ n => natK n fun a => vI z fun _ m => natK m fun b => ifK (Nat.beq a 0) fun _ => ifK (Nat.beq b 0) fun _ => k .l0) fun id g off len fin cap => vI w fun _ n => natK n fun a => vI z fun _ m => natK m fun b => ifK (Nat.ble a b) fun _ =>
 Option.rec (fun id g off len fin a b k => sliceN size id g off len fin a b fun v => k v) (fun c id g off len fin a b k => boolK (flagB c) (fun _ => ifK (Nat.beq b 0) fun _ => k (.l id g off 0 off (some c))) (fun _ => sliceC size id g off len fin c a b fun v => k v)) cap id g off len fin a b k
theorem ev_slBo {cf : CallF} {k : V → H → Bool} (size : Nat) (b : O) : doSlice size x (some a) (some b) cf t h k = slBoV size (oV x t) (oV a t) (oV b t) fun v => k v h := by
 unfold slBoV
 simp only [doSlice, oE_eq, boundK]
 congr 1
 funext id g off len fin cap
 congr 1; funext _ n; congr 1; funext a; congr 1; funext _ m; congr 1; funext b; congr 1; funext _
 cases cap with
 | none => rfl
 | some c =>
   show boolK (flagB c) _ _ = boolK (flagB c) _ _
   cases flagB c <;> rfl
theorem or_slBo (b : O) : OR P (doSlice size x (some a) (some b)) t h N = H3 P (slBoV size) (oV x t) (oV a t) (oV b t) h N := or_hv fun cf k => ev_slBo ..
theorem h2_sliceArr {g off fin : Nat} (hK : n < 18446744073709551616) (h0 : 0 ≤ z) (hn : z < n) : H2 P (gSliceArr n size) (.p id g off fin) (.i kd z) h N = N.go P (.l id g (off + z.toNat * size) (n - z.toNat) fin (some (n - z.toNat))) h := hv_of fun k => by
 show natK z (fun p => ifK (Nat.ble p n) fun _ => sliceC size id g off n fin n p n k) = _
 rw [natK_nn h0, ifBle (by omega), sliceC_mid hK (Nat.le_refl _) (by omega)]
theorem h2_slLo (hKM : K < 18446744073709551616) (h0 : 0 ≤ z) (hn : z ≤ K) : H2 P (slLoV 1) (.l id 0 0 K K (some K)) (.i kd z) h N = N.go P (tailV id K z.toNat) h := hv_of fun k => by
 obtain ⟨n, rfl⟩ := Int.eq_ofNat_of_zero_le h0
 exact slLo_row hKM (by omega) k
theorem h2_slHi (hKM : K < 18446744073709551616) (h0 : 0 ≤ z) (hn : z ≤ K) (hK : 0 < K) : H2 P (slHiV 1) (.l id 0 0 K K (some K)) (.i kd z) h N = N.go P (.l id 0 0 z.toNat K (some K)) h := hv_of fun k => by
 obtain ⟨n, rfl⟩ := Int.eq_ofNat_of_zero_le h0
 exact slHi_row hKM (by omega) hK k
end
def CL (P : Program) (f : FuncId) (vs : List V) (h : H) (N : Nx) : Prop := ∃ Q, FnOk P f vs h Q ∧ ∀ v h', Q v h' → N.go P v h'
theorem CL.mk {P : Program} {f : FuncId} {vs : List V} {h : H} {N : Nx} {Q : V → H → Prop} (a : FnOk P f vs h Q) (k : ∀ v h', Q v h' → N.go P v h') : CL P f vs h N := ⟨Q, a, k⟩
theorem CL.pure {P : Program} {f : FuncId} {vs : List V} {h : H} {N : Nx} {e : V} (a : FnOk P f vs h fun y h' => y = e ∧ h' = h) (k : N.go P e h) : CL P f vs h N := ⟨_, a, fun v h' hq => by rw [hq.1, hq.2]; exact k⟩
theorem CL.stay {P : Program} {f : FuncId} {vs : List V} {h : H} {N : Nx} {e : V} (a : FnOk P f vs h fun y h' => y = e ∧ Stay nowhere h h') (k : ∀ h', Stay nowhere h h' → N.go P e h') : CL P f vs h N := ⟨_, a, fun v h' hq => by rw [hq.1]; exact k h' hq.2⟩
theorem or_call {P : Program} {t : F} {h : H} {N : Nx} {f : FuncId} {args : List O} : OR P (doCall f args) t h N = CL P f (args.map fun o => oV o t) h N := by
 apply propext; constructor
 · rintro ⟨v, h', ⟨cf, c1, c2⟩, k⟩
   have c3 : ∀ k, cf f (args.map fun o => oV o t) h k = k v h' := fun k => by rw [← c2 k]; show _ = evalsK args t (fun vs => cf f vs h k); rw [evalsK_eq]
   obtain ⟨v', h'', e, r1, r2, r3⟩ := c1 f _ h (fun _ _ => true) (c3 _)
   obtain ⟨rfl, rfl⟩ := vh_of fun k => (c3 k).symm.trans (e k)
   refine ⟨fun v h => v = v' ∧ h = h'', ⟨v', h'', ⟨r1, r2, r3⟩, rfl, rfl⟩, ?_⟩
   rintro _ _ ⟨rfl, rfl⟩
   exact k
 · rintro ⟨Q, a, k⟩
   obtain ⟨v, h', c1, c2⟩ := cfS_call (S := fun _ _ _ v h' => Q v h') a
   exact ⟨v, h', ⟨_, cfS_ok P _, fun k => by show evalsK args t _ = _; rw [evalsK_eq, c1]⟩, k v h' c2⟩
theorem or_mkF {P : Program} {t : F} {h : H} {N : Nx} {f : FuncId} {cap : List O} : OR P (doMkF f cap) t h N = N.go P (.f f (cap.map fun o => oV o t)) h := (or_hv (g := fun k => k (.f f (cap.map fun o => oV o t))) fun cf k => by show evalsK cap t _ = _; rw [evalsK_eq]).trans (hv_of fun _ => rfl)
def CLF (P : Program) (x : V) (vs : List V) (h : H) (N : Nx) : Prop := ∃ f cs, x = .f f cs ∧ CL P f (vs ++ cs) h N
theorem clf_eq {P : Program} {f : FuncId} {cs vs : List V} {h : H} {N : Nx} : CLF P (.f f cs) vs h N = CL P f (vs ++ cs) h N := propext ⟨fun ⟨_, _, e, a⟩ => by cases e; exact a, fun a => ⟨_, _, rfl, a⟩⟩
theorem or_callV {P : Program} {t : F} {h : H} {N : Nx} {x : O} {args : List O} : OR P (doCallV x args) t h N = CLF P (oV x t) (args.map fun o => oV o t) h N := by
 have key : ∀ f cs, oV x t = .f f cs → OR P (doCallV x args) t h N = CL P f ((args.map fun o => oV o t) ++ cs) h N := fun f cs hx => by
   have e : ∀ cf k, doCallV x args cf t h k = cf f ((args.map fun o => oV o t) ++ cs) h k := fun cf k => by show oE x t _ = _; rw [oE_eq]; show evalsK args t _ = _; rw [evalsK_eq, hx, vF_f, app_eqV]
   apply propext; constructor
   · rintro ⟨v, h', ⟨cf, c1, c2⟩, k⟩
     have c3 : ∀ k, cf f ((args.map fun o => oV o t) ++ cs) h k = k v h' := fun k => (e cf k).symm.trans (c2 k)
     obtain ⟨v', h'', e, r1, r2, r3⟩ := c1 f _ h (fun _ _ => true) (c3 _)
     obtain ⟨rfl, rfl⟩ := vh_of fun k => (c3 k).symm.trans (e k)
     refine ⟨fun v h => v = v' ∧ h = h'', ⟨v', h'', ⟨r1, r2, r3⟩, rfl, rfl⟩, ?_⟩
     rintro _ _ ⟨rfl, rfl⟩
     exact k
   · rintro ⟨Q, a, k⟩
     obtain ⟨v, h', c1, c2⟩ := cfS_call (S := fun _ _ _ v h' => Q v h') a
     exact ⟨v, h', ⟨_, cfS_ok P _, fun k => (e _ k).trans (c1 k)⟩, k v h' c2⟩
 apply propext; constructor
 · intro a
   have a' := a
   obtain ⟨v, h', ⟨cf, c1, c2⟩, k⟩ := a'
   have := c2 fun _ _ => true
   have h2 : (oE x t fun y => evalsK args t fun vs => vF y fun f cs => cf f (app vs cs) h fun _ _ => true) = true := this
   rw [oE_eq] at h2
   have h2 : (evalsK args t fun vs => vF (oV x t) fun f cs => cf f (app vs cs) h fun _ _ => true) = true := h2
   rw [evalsK_eq] at h2
   obtain ⟨f, cs, hx, _⟩ := vF_ok h2
   exact ⟨f, cs, hx, by rw [← key f cs hx]; exact a⟩
 · rintro ⟨f, cs, hx, a⟩
   rw [key f cs hx]; exact a
def CD (v : V) (A B : Prop) : Prop := ∃ q, v = .b q ∧ (q = true → A) ∧ (q = false → B)
theorem Ok.cd {P : Program} {nt : Nat} {o : O} {a b : CC} {t : F} {h : H} {K : X → F → H → Prop} (c : CD (oV o t) (Ok P nt a t h K) (Ok P nt b t h K)) : Ok P nt (.cond o a b) t h K := by
 obtain ⟨q, hq, ha, hb⟩ := c
 exact Ok.cond hq ha hb
theorem cd_t {A B : Prop} : CD (.b true) A B = A := propext ⟨fun ⟨q, hq, ha, _⟩ => by cases hq; exact ha rfl, fun a => ⟨true, rfl, fun _ => a, fun h => by cases h⟩⟩
theorem cd_f {A B : Prop} : CD (.b false) A B = B := propext ⟨fun ⟨q, hq, _, hb⟩ => by cases hq; exact hb rfl, fun b => ⟨false, rfl, fun h => (by cases h), fun _ => b⟩⟩
theorem cd_split {q : Bool} {A B : Prop} (a : q = true → A) (b : q = false → B) : CD (.b q) A B := ⟨q, rfl, a, b⟩
def Sq (P : Program) (nt : Nat) (b : CC) (K : X → F → H → Prop) : X → F → H → Prop
 | .normal, t, h => Ok P nt b t h K
 | x, t, h => K x t h
def LpG (Inv : Nat → F → H → Prop) (m : Nat) (t : F) (h : H) : Prop := ∃ m', m' < m ∧ Inv m' t h
def LpK (Inv : Nat → F → H → Prop) (m : Nat) (K : X → F → H → Prop) : X → F → H → Prop
 | .normal, t, h => LpG Inv m t h
 | x, t, h => K x t h
section
variable {P : Program} {nt : Nat} {a b : CC} {t : F} {h : H} {K : X → F → H → Prop} {Inv : Nat → F → H → Prop} {m j id : Nat}
theorem Ok.sq (k : Ok P nt a t h (Sq P nt b K)) : Ok P nt (.seq a b) t h K := Ok.seq (k.mono fun x t h => by cases x <;> exact fun h => h)
theorem sq_n : Sq P nt b K .normal t h = Ok P nt b t h K := rfl
theorem sq_e : Sq P nt b K (.exit j) t h = K (.exit j) t h := rfl
theorem sq_r : Sq P nt b K .ret t h = K .ret t h := rfl
theorem lp_n : LpK Inv m K .normal t h = LpG Inv m t h := rfl
theorem lp_e : LpK Inv m K (.exit j) t h = K (.exit j) t h := rfl
theorem lp_r : LpK Inv m K .ret t h = K .ret t h := rfl
def IsI (I Inv : Nat → F → H → Prop) : Prop := I = Inv
theorem Ok.lp (Inv : Nat → F → H → Prop) (m : Nat) (i : Inv m t h) (round : ∀ I : Nat → F → H → Prop, IsI I Inv → ∀ m t h, Inv m t h → Ok P nt a t h (LpK I m K)) : Ok P nt (.loop a) t h K :=
 Ok.loop Inv (fun m t h hi => (round Inv rfl m t h hi).mono fun x t h => by cases x <;> exact fun h => h) m t h i
theorem lp_next {I : Nat → F → H → Prop} (e : IsI I Inv) (m' : Nat) (hm : m' < m) (k : Inv m' t h) : LpG I m t h := by have e' : I = Inv := e; subst e'; exact ⟨m', hm, k⟩
end
def FnK (rs : List Rs) (Q : V → H → Prop) : X → F → H → Prop := fun x t' h' => match x with
 | .exit _ => False
 | _ => ∃ us, (∀ k : List V → Bool, resK rs t' h' k = k us) ∧ Q (one us) h'
theorem fn_go {P : Program} {f : FuncId} {nt : Nat} {cc : CC} {rs : List Rs} {vs : List V} {h : H} {Q : V → H → Prop} (hc : compFn P f = ⟨nt, cc, rs⟩) (hbad : cc ≠ .bad) (hl1 : vs.length ≤ nt) (hl2 : vs.length ≤ 512)
   (ok : ∀ Q', Q' = Q → Ok P nt cc (slotsF vs 0 F.zero) h (FnK rs Q')) : FnOk P f vs h Q := fn_run hc hbad hl1 hl2 (ok Q rfl)
section
variable {Q : V → H → Prop} {t : F} {h : H} {n m p q : Nat}
theorem fnk_of {rs : List Rs} {us : List V} (e : ∀ k : List V → Bool, resK rs t h k = k us) : FnK rs Q .ret t h = Q (one us) h :=
 propext ⟨fun ⟨vs, e', k⟩ => by have := l_of fun k => (e k).symm.trans (e' k); subst this; exact k, fun k => ⟨us, e, k⟩⟩
theorem fnk_n {rs : List Rs} : FnK rs Q .normal t h = FnK rs Q .ret t h := rfl
theorem fnk_0 : FnK [] Q .ret t h = Q (.tu []) h := fnk_of (us := []) fun k => rfl
theorem fnk_1 : FnK [Rs.tmp (slOf n)] Q .ret t h = Q (get n t) h := fnk_of (us := [_]) fun k => res_1 ..
theorem fnk_2 : FnK [Rs.tmp (slOf n), Rs.tmp (slOf m)] Q .ret t h = Q (.tu [get n t, get m t]) h := fnk_of (us := [_, _]) fun k => res_2 ..
theorem fnk_3 : FnK [Rs.tmp (slOf n), Rs.tmp (slOf m), Rs.tmp (slOf p)] Q .ret t h = Q (.tu [get n t, get m t, get p t]) h := fnk_of (us := [_, _, _]) fun k => res_3 ..
theorem fnk_4 : FnK [Rs.tmp (slOf n), Rs.tmp (slOf m), Rs.tmp (slOf p), Rs.tmp (slOf q)] Q .ret t h = Q (.tu [get n t, get m t, get p t, get q t]) h := fnk_of (us := [_, _, _, _]) fun k => by
 show forceV (sGet (slOf n) t) (fun v => forceV (sGet (slOf m) t) fun u => forceV (sGet (slOf p) t) fun w => forceV (sGet (slOf q) t) fun z => k [v, u, w, z]) = _
 rw [forceV_eq, forceV_eq, forceV_eq, forceV_eq]; rfl
end
def RA (Q : V → H → Prop) (size : Nat) (v : V) (us : List V) (h : H) : Prop := ∃ vs, (∀ k : List V → Bool, (vP v fun id g off fin => loadN h id g off fin size k) = k vs) ∧ Q (one (.a vs :: us)) h
section
variable {Q : V → H → Prop} {t : F} {h : H} {n m p q size : Nat}
theorem ra_of {rs : List Rs} {us : List V} (e : ∀ (k : List V → Bool), (rsK (Rs.cellA (slOf n) size) t h fun w => resK rs t h fun vs => k (w :: vs)) = vP (get n t) fun id g off fin => loadN h id g off fin size fun vs => k (.a vs :: us)) : FnK (Rs.cellA (slOf n) size :: rs) Q .ret t h = RA Q size (get n t) us h := by
 refine propext ⟨fun ⟨ws, e', k⟩ => ?_, fun ⟨vs, e', k⟩ => ⟨.a vs :: us, fun k => ?_, k⟩⟩
 · have e2 := fun k => (e k).symm.trans (e' k)
   have e3 := e2 (fun zs => true)
   obtain ⟨id, g, off, fin, hp⟩ : ∃ id g off fin, get n t = .p id g off fin := by
     revert e3
     cases get n t <;> intro e3 <;> first | exact ⟨_, _, _, _, rfl⟩ | exact Bool.noConfusion e3
   rw [hp] at e2 ⊢
   have e4 : ∀ k : List V → Bool, loadN h id g off fin size (fun vs => k (.a vs :: us)) = k ws := e2
   obtain ⟨vs, hv, _⟩ := loadN_ok (h := h) (id := id) (g := g) (off := off) (fin := fin) (n := size) (k := fun _ => true) (e4 fun _ => true)
   have : ws = .a vs :: us := l_of fun k => by rw [← e4 k, hv]
   subst this
   exact ⟨vs, hv, k⟩
 · have := e' fun vs => k (.a vs :: us)
   rw [← this]; exact e k
theorem fnk_A0 : FnK [Rs.cellA (slOf n) size] Q .ret t h = RA Q size (get n t) [] h := ra_of fun k => rfl
theorem fnk_A1 : FnK [Rs.cellA (slOf n) size, Rs.tmp (slOf m)] Q .ret t h = RA Q size (get n t) [get m t] h := ra_of fun k => by
 show (vP (get n t) fun id g off fin => loadN h id g off fin size fun vs => forceV (get m t) fun v => k [.a vs, v]) = _
 simp only [forceV_eq]
theorem fnk_A2 : FnK [Rs.cellA (slOf n) size, Rs.tmp (slOf m), Rs.tmp (slOf p)] Q .ret t h = RA Q size (get n t) [get m t, get p t] h := ra_of fun k => by
 show (vP (get n t) fun id g off fin => loadN h id g off fin size fun vs => forceV (get m t) fun v => forceV (get p t) fun u => k [.a vs, v, u]) = _
 simp only [forceV_eq]
end
theorem one_0 : one [] = .tu [] := rfl
theorem wrap_u8 {n : Int} (h1 : 0 ≤ n) (h2 : n ≤ 255) : IntKind.u8.wrap n = n := by
 simp only [IntKind.wrap, IntKind.bits, IntKind.signed]; simp; omega
theorem wrap_u16 {n : Int} (h1 : 0 ≤ n) (h2 : n ≤ 65535) : IntKind.u16.wrap n = n := by
 simp only [IntKind.wrap, IntKind.bits, IntKind.signed]; simp; omega
theorem wrap_u32 {n : Int} (h1 : 0 ≤ n) (h2 : n ≤ 4294967295) : IntKind.u32.wrap n = n := by
 simp only [IntKind.wrap, IntKind.bits, IntKind.signed]; simp; omega
theorem wrap_u64 {n : Int} (h1 : 0 ≤ n) (h2 : n ≤ 18446744073709551615) : IntKind.u64.wrap n = n := by
 simp only [IntKind.wrap, IntKind.bits, IntKind.signed]; simp; omega
theorem wrap_i32 {n : Int} (h1 : -2147483648 ≤ n) (h2 : n ≤ 2147483647) : IntKind.i32.wrap n = n := by
 simp only [IntKind.wrap, IntKind.bits, IntKind.signed]; simp; omega
theorem wrap_i64c (c : UInt8) : IntKind.i64.wrap (c.toNat : Int) = (c.toNat : Int) := wrap_i64 (by omega) (by have := c.toNat_lt; omega)
theorem wrap_u8c (c : UInt8) : IntKind.u8.wrap (c.toNat : Int) = (c.toNat : Int) := wrap_u8 (by omega) (by have := c.toNat_lt; omega)
theorem wrap_u16c (c : UInt8) : IntKind.u16.wrap (c.toNat : Int) = (c.toNat : Int) := wrap_u16 (by omega) (by have := c.toNat_lt; omega)
theorem wrap_u32c (c : UInt8) : IntKind.u32.wrap (c.toNat : Int) = (c.toNat : Int) := wrap_u32 (by omega) (by have := c.toNat_lt; omega)
theorem wrap_u64c (c : UInt8) : IntKind.u64.wrap (c.toNat : Int) = (c.toNat : Int) := wrap_u64 (by omega) (by have := c.toNat_lt; omega)
theorem bits_i64 : IntKind.bits .i64 = 64 := rfl
theorem bits_u64 : IntKind.bits .u64 = 64 := rfl
theorem bits_u32 : IntKind.bits .u32 = 32 := rfl
theorem bits_u16 : IntKind.bits .u16 = 16 := rfl
theorem bits_u8 : IntKind.bits .u8 = 8 := rfl
theorem bits_i32 : IntKind.bits .i32 = 32 := rfl
end Go.Ev

set_option linter.all false
set_option maxRecDepth 10000
namespace Go.Ev
open Go
section
variable {P : Program} {h : H} {N : Nx} {a b : Int}
theorem h2_and_i64 (ha : 0 ≤ a) (ha2 : a ≤ 9223372036854775807) (hb : 0 ≤ b) (hb2 : b ≤ 9223372036854775807) : H2 P (gBin fAnd) (.i .i64 a) (.i .i64 b) h N = N.go P (.i .i64 ((a.toNat &&& b.toNat : Nat) : Int)) h := h2_and (m := 9223372036854775807) rfl ha ha2 hb hb2
theorem h2_and_u8 (ha : 0 ≤ a) (ha2 : a ≤ 255) (hb : 0 ≤ b) (hb2 : b ≤ 255) : H2 P (gBin fAnd) (.i .u8 a) (.i .u8 b) h N = N.go P (.i .u8 ((a.toNat &&& b.toNat : Nat) : Int)) h := h2_and (m := 255) rfl ha ha2 hb hb2
theorem h2_and_u16 (ha : 0 ≤ a) (ha2 : a ≤ 65535) (hb : 0 ≤ b) (hb2 : b ≤ 65535) : H2 P (gBin fAnd) (.i .u16 a) (.i .u16 b) h N = N.go P (.i .u16 ((a.toNat &&& b.toNat : Nat) : Int)) h := h2_and (m := 65535) rfl ha ha2 hb hb2
theorem h2_and_u32 (ha : 0 ≤ a) (ha2 : a ≤ 4294967295) (hb : 0 ≤ b) (hb2 : b ≤ 4294967295) : H2 P (gBin fAnd) (.i .u32 a) (.i .u32 b) h N = N.go P (.i .u32 ((a.toNat &&& b.toNat : Nat) : Int)) h := h2_and (m := 4294967295) rfl ha ha2 hb hb2
theorem h2_and_u64 (ha : 0 ≤ a) (ha2 : a ≤ 18446744073709551615) (hb : 0 ≤ b) (hb2 : b ≤ 18446744073709551615) : H2 P (gBin fAnd) (.i .u64 a) (.i .u64 b) h N = N.go P (.i .u64 ((a.toNat &&& b.toNat : Nat) : Int)) h := h2_and (m := 18446744073709551615) rfl ha ha2 hb hb2
theorem h2_or_i64 (ha : 0 ≤ a) (ha2 : a ≤ 9223372036854775807) (hb : 0 ≤ b) (hb2 : b ≤ 9223372036854775807) : H2 P (gBin fOr) (.i .i64 a) (.i .i64 b) h N = N.go P (.i .i64 ((a.toNat ||| b.toNat : Nat) : Int)) h := h2_or (m := 9223372036854775807) rfl ha ha2 hb hb2
theorem h2_or_u8 (ha : 0 ≤ a) (ha2 : a ≤ 255) (hb : 0 ≤ b) (hb2 : b ≤ 255) : H2 P (gBin fOr) (.i .u8 a) (.i .u8 b) h N = N.go P (.i .u8 ((a.toNat ||| b.toNat : Nat) : Int)) h := h2_or (m := 255) rfl ha ha2 hb hb2
theorem h2_or_u16 (ha : 0 ≤ a) (ha2 : a ≤ 65535) (hb : 0 ≤ b) (hb2 : b ≤ 65535) : H2 P (gBin fOr) (.i .u16 a) (.i .u16 b) h N = N.go P (.i .u16 ((a.toNat ||| b.toNat : Nat) : Int)) h := h2_or (m := 65535) rfl ha ha2 hb hb2
theorem h2_or_u32 (ha : 0 ≤ a) (ha2 : a ≤ 4294967295) (hb : 0 ≤ b) (hb2 : b ≤ 4294967295) : H2 P (gBin fOr) (.i .u32 a) (.i .u32 b) h N = N.go P (.i .u32 ((a.toNat ||| b.toNat : Nat) : Int)) h := h2_or (m := 4294967295) rfl ha ha2 hb hb2
theorem h2_or_u64 (ha : 0 ≤ a) (ha2 : a ≤ 18446744073709551615) (hb : 0 ≤ b) (hb2 : b ≤ 18446744073709551615) : H2 P (gBin fOr) (.i .u64 a) (.i .u64 b) h N = N.go P (.i .u64 ((a.toNat ||| b.toNat : Nat) : Int)) h := h2_or (m := 18446744073709551615) rfl ha ha2 hb hb2
theorem h2_xor_i64 (ha : 0 ≤ a) (ha2 : a ≤ 9223372036854775807) (hb : 0 ≤ b) (hb2 : b ≤ 9223372036854775807) : H2 P (gBin fXor) (.i .i64 a) (.i .i64 b) h N = N.go P (.i .i64 ((a.toNat ^^^ b.toNat : Nat) : Int)) h := h2_xor (m := 9223372036854775807) rfl ha ha2 hb hb2
theorem h2_xor_u8 (ha : 0 ≤ a) (ha2 : a ≤ 255) (hb : 0 ≤ b) (hb2 : b ≤ 255) : H2 P (gBin fXor) (.i .u8 a) (.i .u8 b) h N = N.go P (.i .u8 ((a.toNat ^^^ b.toNat : Nat) : Int)) h := h2_xor (m := 255) rfl ha ha2 hb hb2
theorem h2_xor_u16 (ha : 0 ≤ a) (ha2 : a ≤ 65535) (hb : 0 ≤ b) (hb2 : b ≤ 65535) : H2 P (gBin fXor) (.i .u16 a) (.i .u16 b) h N = N.go P (.i .u16 ((a.toNat ^^^ b.toNat : Nat) : Int)) h := h2_xor (m := 65535) rfl ha ha2 hb hb2
theorem h2_xor_u32 (ha : 0 ≤ a) (ha2 : a ≤ 4294967295) (hb : 0 ≤ b) (hb2 : b ≤ 4294967295) : H2 P (gBin fXor) (.i .u32 a) (.i .u32 b) h N = N.go P (.i .u32 ((a.toNat ^^^ b.toNat : Nat) : Int)) h := h2_xor (m := 4294967295) rfl ha ha2 hb hb2
theorem h2_xor_u64 (ha : 0 ≤ a) (ha2 : a ≤ 18446744073709551615) (hb : 0 ≤ b) (hb2 : b ≤ 18446744073709551615) : H2 P (gBin fXor) (.i .u64 a) (.i .u64 b) h N = N.go P (.i .u64 ((a.toNat ^^^ b.toNat : Nat) : Int)) h := h2_xor (m := 18446744073709551615) rfl ha ha2 hb hb2
theorem h2_ant_i64 (ha : 0 ≤ a) (ha2 : a ≤ 9223372036854775807) (hb : 0 ≤ b) (hb2 : b ≤ 9223372036854775807) : H2 P (gBin fAnt) (.i .i64 a) (.i .i64 b) h N = N.go P (.i .i64 ((a.toNat ^^^ (a.toNat &&& b.toNat) : Nat) : Int)) h := h2_ant (m := 9223372036854775807) rfl ha ha2 hb hb2
theorem h2_ant_u8 (ha : 0 ≤ a) (ha2 : a ≤ 255) (hb : 0 ≤ b) (hb2 : b ≤ 255) : H2 P (gBin fAnt) (.i .u8 a) (.i .u8 b) h N = N.go P (.i .u8 ((a.toNat ^^^ (a.toNat &&& b.toNat) : Nat) : Int)) h := h2_ant (m := 255) rfl ha ha2 hb hb2
theorem h2_ant_u16 (ha : 0 ≤ a) (ha2 : a ≤ 65535) (hb : 0 ≤ b) (hb2 : b ≤ 65535) : H2 P (gBin fAnt) (.i .u16 a) (.i .u16 b) h N = N.go P (.i .u16 ((a.toNat ^^^ (a.toNat &&& b.toNat) : Nat) : Int)) h := h2_ant (m := 65535) rfl ha ha2 hb hb2
theorem h2_ant_u32 (ha : 0 ≤ a) (ha2 : a ≤ 4294967295) (hb : 0 ≤ b) (hb2 : b ≤ 4294967295) : H2 P (gBin fAnt) (.i .u32 a) (.i .u32 b) h N = N.go P (.i .u32 ((a.toNat ^^^ (a.toNat &&& b.toNat) : Nat) : Int)) h := h2_ant (m := 4294967295) rfl ha ha2 hb hb2
theorem h2_ant_u64 (ha : 0 ≤ a) (ha2 : a ≤ 18446744073709551615) (hb : 0 ≤ b) (hb2 : b ≤ 18446744073709551615) : H2 P (gBin fAnt) (.i .u64 a) (.i .u64 b) h N = N.go P (.i .u64 ((a.toNat ^^^ (a.toNat &&& b.toNat) : Nat) : Int)) h := h2_ant (m := 18446744073709551615) rfl ha ha2 hb hb2
end
theorem cond_tV (x y : V) : cond true x y = x := rfl
theorem cond_fV (x y : V) : cond false x y = y := rfl
theorem map_cV (f : O → V) (o : O) (os : List O) : List.map f (o :: os) = f o :: List.map f os := rfl
theorem map_nV (f : O → V) : List.map f [] = [] := rfl
theorem len_cV (a : V) (l : List V) : (a :: l).length = l.length + 1 := rfl
theorem len_nV : ([] : List V).length = 0 := rfl
theorem take_0V (l : List V) : l.take 0 = [] := rfl
theorem take_sV (n : Nat) (a : V) (l : List V) : (a :: l).take (n + 1) = a :: l.take n := rfl
theorem drop_0V (l : List V) : l.drop 0 = l := rfl
theorem drop_sV (n : Nat) (a : V) (l : List V) : (a :: l).drop (n + 1) = l.drop n := rfl
theorem app_nV (l : List V) : [] ++ l = l := rfl
theorem app_cV (a : V) (l m : List V) : (a :: l) ++ m = a :: (l ++ m) := rfl
theorem getD_0V (a : V) (l : List V) (d : V) : (a :: l).getD 0 d = a := rfl
theorem getD_sV (n : Nat) (a : V) (l : List V) (d : V) : (a :: l).getD (n + 1) d = l.getD n d := by simp [List.getD]
theorem set_0V (a b : V) (l : List V) : (a :: l).set 0 b = b :: l := rfl
theorem set_sV (n : Nat) (a b : V) (l : List V) : (a :: l).set (n + 1) b = a :: l.set n b := rfl
theorem beq_bb (b : Bool) : (b == b) = true := by cases b <;> rfl
theorem bne_bb (b : Bool) : (b != b) = false := by cases b <;> rfl
def wlk := And.intro @wB_eq (And.intro @uB_eq (And.intro @wG_eq (And.intro @uG_eq (And.intro @oN_eq (And.intro @wo_nil (And.intro @do_nil (And.intro @wo_c (And.intro @wo_0 (And.intro @wo_g (And.intro @wo_g0 (And.intro @do_c (And.intro @do_0 (And.intro @do_g (And.intro @do_u (And.intro @do_u0 (And.intro @do_gu (And.intro @go_w (And.intro @go_w0 (And.intro @go_d (And.intro @go_d0 (And.intro @go_u (And.intro @go_u0 (And.intro @gd_tt (And.intro @gd_ff (And.intro @gd_tf (And.intro @gd_ft (And.intro @gd_tu (And.intro @unFloor_re (And.intro @or_move (And.intro @or_pick (And.intro @or_bin (And.intro @or_shift (And.intro @or_rem (And.intro @or_bool (And.intro @or_not (And.intro @or_neg (And.intro @or_conv (And.intro @or_ext (And.intro @or_lenS (And.intro @or_len (And.intro @or_min (And.intro @or_max (And.intro @or_field (And.intro @or_fieldA (And.intro @or_fieldAddr (And.intro @or_nilCheck (And.intro @or_idx (And.intro @or_idxArr (And.intro @or_sindex (And.intro @or_aindex (And.intro @or_concat (And.intro @or_scmp (And.intro @or_cmpS (And.intro @or_ss2 (And.intro @or_ss1 (And.intro @or_ssa (And.intro @or_moveS (And.intro @or_nil (And.intro @or_sliceArr (And.intro @or_load (And.intro @or_loadA (And.intro @or_b2s (And.intro @or_build (And.intro @or_call (And.intro @or_mkF (And.intro @or_callV (And.intro @clf_eq (And.intro @or_alloc (And.intro @or_box (And.intro @or_buildSlice (And.intro @or_store (And.intro @or_makeSlice (And.intro @or_append (And.intro @or_appendS (And.intro @or_copy (And.intro @or_copyS (And.intro @or_s2b (And.intro @or_slLo (And.intro @or_slHi (And.intro @or_slBo (And.intro @or_i2s (And.intro @or_sEq (And.intro @h2_add (And.intro @h2_sub (And.intro @h2_mul (And.intro @h2_lss (And.intro @h2_gtr (And.intro @h2_leq (And.intro @h2_geq (And.intro @h2_eql (And.intro @h2_neq (And.intro @h2_quo (And.intro @h2_rem (And.intro @h2_shl (And.intro @h2_shr (And.intro @h2_beq (And.intro @h2_bne (And.intro @h1_not (And.intro @h1_neg (And.intro @h1_conv (And.intro @h1_ext0 (And.intro @h1_ext1 (And.intro @h1_ext2 (And.intro @h1_ext3 (And.intro @h2_min (And.intro @h2_max (And.intro @h3_pick (And.intro @h1_field (And.intro @h1_fieldA (And.intro @h1_fieldAddr (And.intro @h1_nilCheck (And.intro @h2_idx (And.intro @ix_l (And.intro @h2_idxArr (And.intro @gLen_l0 (And.intro @gLen_l (And.intro @h1_lenS (And.intro @h2_sindex (And.intro @h2_aindex (And.intro @h2_cat (And.intro @h2_seq (And.intro @h2_cmpS (And.intro @h2_sne (And.intro @h2_slt (And.intro @h2_sge (And.intro @h2_sle (And.intro @h2_sgt (And.intro @h3_ss2 (And.intro @h2_ss1 (And.intro @h2_ssa (And.intro @h1_moveS (And.intro @h2_nilL0 (And.intro @h2_nilL1 (And.intro @h2_nilP0 (And.intro @h2_nilP1 (And.intro @ld_p (And.intro @la_p (And.intro @l1_re (And.intro @ln_re (And.intro @bs_re (And.intro @fl_n (And.intro @fl_s (And.intro @fl_c (And.intro @fp_i (And.intro @fp_b (And.intro @fp_sv (And.intro @fp_p (And.intro @fp_l (And.intro @fp_l0 (And.intro @fp_a (And.intro @bx_i (And.intro @bx_b (And.intro @bx_sv (And.intro @bx_a (And.intro @bx_p (And.intro @bx_l (And.intro @bx_l0 (And.intro @ms_i (And.intro @h2_slLo (And.intro @h2_slHi (And.intro @h2_sliceArr (And.intro @h1_i2s (And.intro @h2_sE (And.intro @h2_sW (And.intro @h2_sP (And.intro @h2_and_i64 (And.intro @h2_and_u8 (And.intro @h2_and_u16 (And.intro @h2_and_u32 (And.intro @h2_and_u64 (And.intro @h2_or_i64 (And.intro @h2_or_u8 (And.intro @h2_or_u16 (And.intro @h2_or_u32 (And.intro @h2_or_u64 (And.intro @h2_xor_i64 (And.intro @h2_xor_u8 (And.intro @h2_xor_u16 (And.intro @h2_xor_u32 (And.intro @h2_xor_u64 (And.intro @h2_ant_i64 (And.intro @h2_ant_u8 (And.intro @h2_ant_u16 (And.intro @h2_ant_u32 (And.intro @h2_ant_u64 (And.intro @cd_t (And.intro @cd_f (And.intro @fnk_n (And.intro @fnk_0 (And.intro @fnk_1 (And.intro @fnk_2 (And.intro @fnk_3 (And.intro @fnk_4 (And.intro @fnk_A0 (And.intro @fnk_A1 (And.intro @fnk_A2 (And.intro @one_0 (And.intro @one_1 (And.intro @one_2 (And.intro @one_3 (And.intro @sq_n (And.intro @sq_e (And.intro @sq_r (And.intro @lp_n (And.intro @lp_e (And.intro @lp_r (And.intro @Out_n (And.intro @Out_e (And.intro @Out_r (And.intro @oV_t (And.intro @oV_c (And.intro @wrap_i64c (And.intro @wrap_u8c (And.intro @wrap_u16c (And.intro @wrap_u32c (And.intro @wrap_u64c (And.intro @wrap_i64 (And.intro @wrap_u8 (And.intro @wrap_u16 (And.intro @wrap_u32 (And.intro @wrap_u64 (And.intro @wrap_i32 (And.intro @bits_i64 (And.intro @bits_u64 (And.intro @bits_u32 (And.intro @bits_u16 (And.intro @bits_u8 (And.intro @bits_i32 (And.intro @sv_nil (And.intro @sv_one (And.intro @map_cV (And.intro @map_nV (And.intro @cond_tV (And.intro @cond_fV (And.intro @Bool.not_true (And.intro @Bool.not_false (And.intro @Bool.not_not (And.intro @decide_true (And.intro @decide_false (And.intro @Int.ofNat_eq_natCast (And.intro @Int.cast_ofNat_Int (And.intro @and_self (And.intro @Int.toNat_natCast (And.intro @beq_bb (And.intro @bne_bb (And.intro @Bool.false_xor (And.intro @Bool.true_xor (And.intro @len_cV (And.intro @len_nV (And.intro @take_0V (And.intro @take_sV (And.intro @drop_0V (And.intro @drop_sV (And.intro @app_nV (And.intro @app_cV (And.intro @getD_0V (And.intro @getD_sV (And.intro @set_0V (And.intro @set_sV (And.intro @Nat.min_eq_left (And.intro @Nat.zero_add (And.intro @Nat.add_zero (And.intro @Nat.mul_one (@Nat.zero_mul))))))))))))))))))))))))))))))))))))))))))))))))))))))))))))))))))))))))))))))))))))))))))))))))))))))))))))))))))))))))))))))))))))))))))))))))))))))))))))))))))))))))))))))))))))))))))))))))))))))))))))))))))))))))))))))))))))))))))))))))))))))))))))))))))))))))
def lnv := And.intro @List.length_append.{0} (And.intro @List.length_cons.{0} (And.intro @List.length_nil.{0} (And.intro @List.length_take.{0} (And.intro @List.length_drop.{0} (And.intro @List.length_map.{0, 0} (@List.length_set.{0}))))))
def hcl := And.intro @Int.not_lt (And.intro @Int.not_le (And.intro @Nat.not_lt (And.intro @Nat.not_le (And.intro @decide_eq_true_eq (And.intro @decide_eq_false_iff_not (And.intro @Bool.not_eq_true (And.intro @Bool.not_eq_false (And.intro @Bool.not_true (And.intro @Bool.not_false (And.intro @Bool.not_eq_eq_eq_not (@Decidable.not_not)))))))))))
class St (p : Prop) (q : outParam Prop) : Prop where
 h : q → p
section
variable {P : Program} {nt : Nat} {t : F} {h : H} {K : X → F → H → Prop} {a b : CC} {l : List CO} {id : Nat} {o : O}
instance : St (Ok P nt (.seq a b) t h K) (Ok P nt a t h (Sq P nt b K)) := ⟨Ok.sq⟩
instance : St (Ok P nt (.block id a) t h K) (Ok P nt a t h (Out id K)) := ⟨Ok.block⟩
instance : St (Ok P nt (.region l) t h K) (WO P l t h (K .normal)) := ⟨Ok.rg⟩
instance : St (Ok P nt (.cond o a b) t h K) (CD (oV o t) (Ok P nt a t h K) (Ok P nt b t h K)) := ⟨Ok.cd⟩
instance : St (Ok P nt .skip t h K) (K .normal t h) := ⟨Ok.skip⟩
instance : St (Ok P nt (.exit id) t h K) (K (.exit id) t h) := ⟨Ok.exit⟩
instance : St (Ok P nt .ret t h K) (K .ret t h) := ⟨Ok.ret⟩
end
end Go.Ev

set_option linter.all false
namespace Go.Ev
open Go
section
variable {P : Program} {h : H} {N : Nx} {id : B} {xs : List V} {j fin el : Nat} {x y : V}
end
section
variable {P : Program} {N : Nx} {h0 g h' : H} {v : V} {M : List (List Bool)} {i j : Nat}
end
theorem Row.ln {P : Program} {h : H} {N : Nx} {id : B} {g off fin size : Nat} {xs : List V} (r : Row h id g 0 xs) (hi : off + size ≤ xs.length) (h1 : 1 ≤ size) (hf : off + size ≤ fin) : LN P id g off fin size h N = N.go P (.a ((xs.drop off).take size)) h := hv_of fun k => by
 have hne : (xs.drop off).take size ≠ [] := by
   intro e
   have := congrArg List.length e
   rw [List.length_take, List.length_drop] at this
   simp at this; omega
 refine loadN_row (vs := (xs.drop off).take size) ⟨fun _ => r.1 (by intro e; subst e; simp at hi; omega), fun i y hy => ?_⟩ (by rw [List.length_take, List.length_drop]; omega) hne hf _
 rw [List.getElem?_take] at hy
 split at hy
 · rw [List.getElem?_drop] at hy
   have := r.2 (off + i) y hy
   rwa [Nat.zero_add] at this
 · cases hy
noncomputable def gPtr (ne : Bool) (x y : V) (k : V → Bool) : Bool := vPZ x (fun _ => vPZ y (fun _ => k (.b (!ne))) fun _ _ _ _ => k (.b ne)) (ptrK ne y k)
section
variable {P : Program} {t : F} {h : H} {N : Nx} {x y : O} {ne : Bool} {id id' : B} {g off fin g' off' fin' : Nat} {u size : Nat}
theorem or_ptr : OR P (doPtr ne x y) t h N = H2 P (gPtr ne) (oV x t) (oV y t) h N := or_hv fun cf k => ev_ptr ..
theorem h2_ptr10 : H2 P (gPtr ne) (.p id g off fin) .p0 h N = N.go P (.b ne) h := hv_of fun k => by
 show ptrK ne .p0 k id g off fin = _
 exact ptrK_p0 ne k id g off fin
end
section
variable {P : Program} {h : H} {N : Nx} {id : B} {xs : List V} {j fin el : Nat} {x y : V}
end
def US (P : Program) (e : Nat) (x y : V) (h : H) (N : Nx) : Prop := HM P (fun k => vI y fun kd n => ifK (kdEq kd .i64) fun _ => natK n fun n => vPZ x (fun _ => ifK (Nat.beq n 0) fun _ => k (.s 0 0) h) fun id g off fin => uStrK e n h k id g off fin) N
theorem US.of {P : Program} {e : Nat} {x y v : V} {h h' : H} {N : Nx} (hk : ∀ k : V → H → Bool, (vI y fun kd n => ifK (kdEq kd .i64) fun _ => natK n fun n => vPZ x (fun _ => ifK (Nat.beq n 0) fun _ => k (.s 0 0) h) fun id g off fin => uStrK e n h k id g off fin) = k v h') (k : N.go P v h') : US P e x y h N := hm_of hk k
theorem or_ustr {P : Program} {e : Nat} {x y : O} {t : F} {h : H} {N : Nx} : OR P (doUStr e x y) t h N = US P e (oV x t) (oV y t) h N := or_hm fun cf k => by simp only [doUStr, oE_eq]
end Go.Ev

set_option linter.all false
namespace Go.Ev
open Go
section
variable {h : H}
theorem ST.ownAll {P : Program} {N : Nx} {id : B} {xs vs : List V} {x : V} {size fin : Nat} (o : Own h id xs) (hc : cells x = vs) (hs : vs.length = size) (h1 : allOne vs = true) (hj : vs.length ≤ fin) (hfit : vs.length < 2 ^ 37)
   (k : ∀ h', Own h' id vs → Stay (fun i => i = id) h h' → N.go P (.tu []) h') : ST P size (.p id 0 0 fin) x h N := by
 obtain ⟨blk, a1, a2, a3, a4, a5, a6, a7⟩ := o
 obtain ⟨next, floor, heap⟩ := h
 obtain ⟨cur, min, sz, cs, bel, fr⟩ := blk
 simp only at a2 a3 a4 a7
 subst a2; subst a3; subst a4
 obtain ⟨tr, t1, t2, t3⟩ := setList_fine vs 0 cs (by omega)
 obtain ⟨hp, s1, s2, s3⟩ := setK_ok id (⟨0, 0, sz, tr, bel, 0⟩ : Blk) heap
 have e1 : B.geB floor id = true := by cases floor <;> first | rfl | (show Nat.ble _ _ = true; rw [Nat.ble_eq]; exact a5)
 have e2 : Nat.ble (Nat.add 0 vs.length) fin = true := by rw [Nat.ble_eq]; show 0 + vs.length ≤ fin; omega
 have e4 : frOk 0 0 = true := rfl
 have e5 : Nat.beq 0 0 = true := rfl
 have e6 : Nat.ble 0 0 = true := rfl
 have e7 : Nat.beq vs.length size = true := by rw [hs]; simp
 have a1' : heap.get id = some ⟨0, 0, sz, cs, bel, 0⟩ := a1
 refine hm_of (v := .tu []) (h' := ⟨next, floor, hp⟩) (fun q => ?_) (k _ ⟨_, s2, rfl, rfl, rfl, a5, a6, fun i z hz => by have := t2 i z hz; rwa [Nat.zero_add] at this⟩ ⟨rfl, Nat.le_refl _, fun i _ hi => s3 i hi⟩)
 show ifK (Nat.beq (cells x).length size) (fun _ => store ⟨next, floor, heap⟩ id 0 0 fin (cells x) fun h => q (.tu []) h) = _
 rw [hc, e7, ifK_true]
 simp only [store, hK_mk, a1', optK_some, blkK_mk, e5, e6, e1, e2, h1, e4, ifK_true]
 rw [t1, s1]
end
theorem ST.all {P : Program} {h : H} {N : Nx} {id : B} {xs vs : List V} {size fin : Nat} (o : Own h id xs) (hs : vs.length = size) (h1 : allOne vs = true) (hj : vs.length ≤ fin) (hfit : vs.length < 2 ^ 37)
   (k : ∀ h', Own h' id vs → Stay (fun i => i = id) h h' → N.go P (.tu []) h') : ST P size (.p id 0 0 fin) (.a vs) h N := ST.ownAll o rfl hs h1 hj hfit k
theorem re_fl (h : H) : B.val (reFloor h).floor ≤ B.val (reFloor h).next := by cases h; exact Nat.le_refl _
theorem CL.stayU {P : Program} {f : FuncId} {vs : List V} {h : H} {e : V} {m : Nat} {l : List CO} {t : F} {K : F → H → Prop} (a : FnOk P f vs (reFloor h) fun y h' => y = e ∧ Stay nowhere (reFloor h) h')
   (k : ∀ h', Stay nowhere h h' → DO P l (put m e t) h' K) : CL P f vs (reFloor h) (.u m l t h K) := ⟨_, a, fun v h' hq => by rw [hq.1, go_u]; exact k _ hq.2.unfloor⟩
def Ss {α : Type} (n : Nat) (c : α → List V) (h : H) (v : V) (L : List α) : Prop :=
 (v = .l0 ∧ L = []) ∨ ∃ id g off fin cap, v = .l id g off L.length fin cap ∧ off + L.length * n ≤ fin ∧ B.val id < B.val h.next ∧ Row h id g off (L.flatMap c)
section
variable {α : Type} [Inhabited α] {n : Nat} {c : α → List V}
theorem fm_len (hc : ∀ e, (c e).length = n) : ∀ (L : List α), (L.flatMap c).length = L.length * n
 | [] => by simp
 | a :: L => by rw [List.flatMap_cons, List.length_append, hc, fm_len hc L, List.length_cons, Nat.add_mul]; omega
theorem fm_at (hc : ∀ e, (c e).length = n) : ∀ {L : List α} {i : Nat}, i < L.length → ((L.flatMap c).drop (i * n)).take n = c (L.getD i default)
 | [], i, h => by simp at h
 | a :: L, 0, h => by
   rw [List.flatMap_cons, Nat.zero_mul, List.drop_zero, List.take_append_of_le_length (by rw [hc]; exact Nat.le_refl _), List.take_of_length_le (by rw [hc]; exact Nat.le_refl _)]; rfl
 | a :: L, i + 1, h => by
   have e : (i + 1) * n = (c a).length + i * n := by rw [hc, Nat.add_mul]; omega
   rw [List.flatMap_cons, e, ← List.drop_drop, List.drop_left, fm_at hc (by simpa using h)]
   simp [List.getD]
theorem fm_get (hc : ∀ e, (c e).length = n) {L : List α} {i d : Nat} (hi : i < L.length) (hd : d < n) : (L.flatMap c)[i * n + d]? = some ((c (L.getD i default)).getD d .u) := by
 have e : (((L.flatMap c).drop (i * n)).take n)[d]? = (c (L.getD i default))[d]? := by rw [fm_at hc hi]
 rw [List.getElem?_take, if_pos hd, List.getElem?_drop] at e
 rw [e]
 have : d < (c (L.getD i default)).length := by rw [hc]; exact hd
 have e3 : ∀ (x : List V), d < x.length → x[d]? = some (x.getD d .u) := fun x hx => by simp [List.getD, hx]
 exact e3 _ this
theorem fm_take (hc : ∀ e, (c e).length = n) : ∀ (L : List α) (k : Nat), (L.take k).flatMap c = (L.flatMap c).take (k * n)
 | [], k => by simp
 | a :: L, 0 => by simp
 | a :: L, k + 1 => by
   have e : (k + 1) * n = (c a).length + k * n := by rw [hc, Nat.add_mul]; omega
   have e2 : ((c a) ++ L.flatMap c).take ((c a).length + k * n) = c a ++ (L.flatMap c).take (k * n) := by
     rw [List.take_append, Nat.add_sub_cancel_left, List.take_of_length_le (Nat.le_add_right _ _)]
   rw [List.take_succ_cons, List.flatMap_cons, List.flatMap_cons, fm_take hc L k, e, e2]
variable {P : Program} {h h' g' : H} {N : Nx} {v : V} {L : List α} {i d : Nat}
theorem Ss.ln (a : Ss n c h v L) : H1 P gLen v g' N = N.go P (.i .i64 (L.length : Int)) g' := by
 rcases a with ⟨rfl, rfl⟩ | ⟨id, g, off, fin, cap, rfl, _⟩
 · exact gLen_l0
 · exact gLen_l
theorem Ss.ix (a : Ss n c h v L) (hi : i < L.length) : IX P n v i g' N = N.go P (.p (lid v) (lg v) (loff v + i * n) (lfin v)) g' := by
 rcases a with ⟨rfl, rfl⟩ | ⟨id, g, off, fin, cap, rfl, _⟩
 · simp at hi
 · exact ix_l hi
theorem Ss.ld (a : Ss n c h v L) (hc : ∀ e, (c e).length = n) (hi : i < L.length) (hd : d < n) : L1 P (lid v) (lg v) (loff v + i * n + d) (lfin v) h N = N.go P ((c (L.getD i default)).getD d .u) h := by
 rcases a with ⟨rfl, rfl⟩ | ⟨id, g, off, fin, cap, rfl, hf, hl, r⟩
 · simp at hi
 · refine hv_of fun k => ?_
   have := r.2 (i * n + d) _ (fm_get hc hi hd)
   rw [← Nat.add_assoc] at this
   have h1 : (i + 1) * n ≤ L.length * n := Nat.mul_le_mul_right n hi
   rw [Nat.add_mul] at h1
   exact load1_cell this (by show off + i * n + d < fin; omega) k
theorem Ss.ldA (a : Ss n c h v L) (hc : ∀ e, (c e).length = n) (hn : 1 ≤ n) (hi : i < L.length) : LN P (lid v) (lg v) (loff v + i * n) (lfin v) n h N = N.go P (.a (c (L.getD i default))) h := by
 rcases a with ⟨rfl, rfl⟩ | ⟨id, g, off, fin, cap, rfl, hf, hl, r⟩
 · simp at hi
 · refine hv_of fun k => ?_
   have h1 : (i + 1) * n ≤ L.length * n := Nat.mul_le_mul_right n hi
   rw [Nat.add_mul] at h1
   have hlen := hc (L.getD i default)
   refine loadN_row (vs := c (L.getD i default)) ⟨fun _ => r.1 ?_, fun j y hy => ?_⟩ hlen (by intro e; rw [e] at hlen; simp at hlen; omega) (by show off + i * n + n ≤ fin; omega) fun vs => k (.a vs)
   · intro e
     have h2 := fm_len hc L
     rw [e] at h2
     have h3 : L.length * n = 0 := h2.symm
     omega
   · have hj : j < n := by rw [← hlen]; exact (List.getElem?_eq_some_iff.1 hy).1
     have e := fm_get hc hi hj
     rw [List.getD, hy] at e
     have := r.2 (i * n + j) _ e
     rw [← Nat.add_assoc] at this
     exact this
theorem Ss.grow (a : Ss n c h v L) (s : Stay nowhere h h') : Ss n c h' v L := by
 rcases a with ⟨rfl, rfl⟩ | ⟨id, g, off, fin, cap, rfl, hf, hl, r⟩
 · exact .inl ⟨rfl, rfl⟩
 · exact .inr ⟨id, g, off, fin, cap, rfl, hf, Nat.lt_of_lt_of_le hl s.next, r.grow s hl⟩
theorem Ss.stay {p : B → Prop} (a : Ss n c h v L) (s : Stay p h h') (hp : ∀ id, isOf v id → ¬ p id) : Ss n c h' v L := by
 rcases a with ⟨rfl, rfl⟩ | ⟨id, g, off, fin, cap, rfl, hf, hl, r⟩
 · exact .inl ⟨rfl, rfl⟩
 · exact .inr ⟨id, g, off, fin, cap, rfl, hf, Nat.lt_of_lt_of_le hl s.next, r.stay s hl (hp id ⟨_, _, _, _, _, rfl⟩)⟩
theorem Ss.nil : Ss n c h .l0 ([] : List α) := .inl ⟨rfl, rfl⟩
theorem new_ss (a : Ss n c h v L) (hc : ∀ e, (c e).length = n) (hn : 1 ≤ n) (k : Nat → List V → Bool) : newCells n v h k = k L.length (L.flatMap c) := by
 rcases a with ⟨rfl, rfl⟩ | ⟨id, g, off, fin, cap, rfl, hf, hl, r⟩
 · rfl
 · have hlen := fm_len hc L
   cases hm : L.length with
   | zero =>
     have : L = [] := List.eq_nil_of_length_eq_zero hm
     subst this; rfl
   | succ m =>
     rw [hm] at hlen hf
     show loadN h id g off fin (Nat.mul (m + 1) n) (fun vs => k (m + 1) vs) = _
     have hne : L.flatMap c ≠ [] := by
       intro e; rw [e] at hlen
       have h3 : (m + 1) * n = 0 := hlen.symm
       rw [Nat.add_mul] at h3; omega
     rw [show Nat.mul (m + 1) n = (L.flatMap c).length by rw [hlen]; rfl, loadN_row r rfl hne (by rw [hlen]; omega)]
end
end Go.Ev

set_option linter.all false
namespace Go.Ev
open Go Go.RowKit Go.WideShapes Go.ChangeShapes Go.ChangeAt Go.Deep
section
variable {H' : Type} {enc : TypeId × Value → H'} {P : Program}
inductive Kd where
 | i (k : IntKind)
 | s
 | b
def Kd.ok (P : Program) (k : Kd) (t : TypeId) : Prop := match k with
 | .i k => P.underlying t = some (.int k)
 | .s => P.underlying t = some .string
 | .b => P.underlying t = some .bool
def FldOk (P : Program) (l : List Field) : Nat → List Kd → Prop
 | _, [] => True
 | n, k :: ks => (∃ f, l[n]? = some f ∧ f.offset = n ∧ P.cellsOf f.type = 1 ∧ k.ok P f.type) ∧ FldOk P l (n + 1) ks
structure FlatF (P : Program) (t : TypeId) (fs : Array Field) (ks : List Kd) : Prop where
 ut : P.underlying t = some (.struct fs)
 sz : P.cellsOf t = ks.length
 fld : FldOk P fs.toList 0 ks
def Kd.fit (k : Kd) (c : Value) : Prop := match k with
 | .i k => ∃ n, c = .int k n ∧ (Lit.int k n).wf = true
 | .s => ∃ s : ByteArray, c = .string s ∧ s.size ≤ maxLen
 | .b => ∃ q, c = .bool q
def Fits : List Kd → List Value → Prop
 | [], cs => cs = []
 | k :: ks, cs => ∃ c r, cs = c :: r ∧ k.fit c ∧ Fits ks r
theorem flat_fits {W : World} {t : TypeId} {fs : Array Field} {ks : List Kd} {fuel : Nat} {cs : List Value} {x : DataW H' × List MemPlace} (F : FlatF P t fs ks) (hd : DataW.trod enc P W 0 (fun _ => true) true fuel t cs = some x) : Fits ks cs := by
 have hf : cs.length = ks.length ∧ ∀ (i : Nat) f, fs.toList[i]? = some f → ∃ n y, DataW.trod enc P W 0 (fun _ => true) true n f.type ((cs.drop f.offset).take (P.cellsOf f.type)) = some y := by
   cases fuel with
   | zero => simp [DataW.trod] at hd
   | succ n =>
     unfold DataW.trod at hd
     rw [F.ut] at hd
     simp only at hd
     split at hd
     · rename_i hl
       refine ⟨hl.trans F.sz, fun i f hf => ?_⟩
       rw [Option.map_eq_some_iff] at hd
       obtain ⟨xs, hx, _⟩ := hd
       have := mapM_some_get hx i f hf
       have hlen := mapM_some_length hx
       have hi : i < xs.length := by rw [hlen]; exact (List.getElem?_eq_some_iff.1 hf).1
       exact ⟨n, xs[i], by rw [this]; simp⟩
     · cases hd
 obtain ⟨hl, hf⟩ := hf
 have go : ∀ (ks : List Kd) (n : Nat), FldOk P fs.toList n ks → cs.length = n + ks.length → Fits ks (cs.drop n) := by
   intro ks
   induction ks with
   | nil => intro n _ e; exact List.drop_eq_nil_of_le (by rw [e]; exact Nat.le_refl _)
   | cons k ks ih =>
     rintro n ⟨⟨f, g, o, c, u⟩, hr⟩ e
     have hlt : n < cs.length := by rw [e, List.length_cons]; omega
     have hc : cs.drop n = cs[n] :: cs.drop (n + 1) := List.drop_eq_getElem_cons hlt
     obtain ⟨m, y, h⟩ := hf n f g
     rw [o, c, hc] at h
     refine ⟨cs[n], cs.drop (n + 1), hc, ?_, ih (n + 1) hr (by rw [e, List.length_cons]; omega)⟩
     cases k with
     | i kd =>
       obtain ⟨z, e1, _, z1⟩ := DataW.trod_int u h
       exact ⟨z, (List.cons.inj e1).1, z1⟩
     | s =>
       obtain ⟨z, e1, _, z1⟩ := DataW.trod_string u h
       exact ⟨z, (List.cons.inj e1).1, z1⟩
     | b =>
       obtain ⟨z, e1, _⟩ := DataW.trod_bool u h
       exact ⟨z, (List.cons.inj e1).1⟩
 have := go ks 0 F.fld (by rw [hl, Nat.zero_add])
 rwa [List.drop_zero] at this
theorem absV_int (W : World) (k : IntKind) (n : Int) : absV W (.int k n) = .i k n := by unfold absV; rfl
theorem rows_of {α : Type} [Inhabited α] {c : α → List V} {n : Nat} {Pr : α → Prop} (hc : ∀ a, (c a).length = n) (hn : 1 ≤ n) {W : World} {h : H} (s : Start W h) (h0 : 0 < W.heap.size) {t e : TypeId} {fuel : Nat} {cs : List Value} {x : DataW H' × List MemPlace}
   (ht : P.underlying t = some (.slice e)) (sz : P.cellsOf e = n) (cell : ∀ (fuel : Nat) (cs : List Value) (x : DataW H' × List MemPlace), DataW.trod enc P W 0 (fun _ => true) true fuel e cs = some x → ∃ a, cs.map (absV W) = c a ∧ Pr a)
   (hd : DataW.trod enc P W 0 (fun _ => true) true fuel t cs = some x) : ∃ sv L, cs = [sv] ∧ Ss n c h (absV W sv) L ∧ L.length ≤ 9223372036854775807 ∧ ∀ a ∈ L, Pr a := by
 rcases open_slice ht hd with ⟨rfl, _⟩ | ⟨a, len, cap, m, nn, D, Pl, rfl, hb, hl, hm, hmm, _, hx⟩
 · exact ⟨_, [], rfl, .inl ⟨rfl, rfl⟩, by simp, fun e he => by cases he⟩
 simp only [if_true] at hmm
 rw [sz] at hx
 have hx' : ∀ i, i < len → ∃ E : α × List Value, E.2.map (absV W) = c E.1 ∧ Pr E.1 ∧ (∀ d y, E.2[d]? = some y → W.cell? ⟨a.block, a.off + i * n + d, none⟩ = some y) ∧ (0 < len → a.spot = none) := by
   intro i hi
   obtain ⟨cs', h1, h2⟩ := hx i (by omega)
   obtain ⟨z, e1, e2⟩ := cell _ _ _ h2
   have hlen' : cs'.length = n := by have := congrArg List.length e1; rwa [List.length_map, hc] at this
   obtain ⟨_, _, h3⟩ := World.cells?_some h1
   refine ⟨(z, cs'), e1, e2, fun d y hy => ?_, fun _ => ?_⟩
   · have hd : d < n := by have : d < cs'.length := (List.getElem?_eq_some_iff.1 hy).1; omega
     have hy : cs'[d]? = some y := hy
     have h4 := h3 d hd
     rw [hy] at h4
     have h5 := cell_add h4
     have e1 : (a.add (i * n)).block = a.block := by unfold Addr.add; split <;> rfl
     have e2 : (a.add (i * n)).off = a.off + i * n := by
       unfold Addr.add; split
       · rename_i hz; rw [hz]; rfl
       · rfl
     rw [e1, e2] at h5
     exact h5
   · obtain ⟨cs0, g1, g2⟩ := hx 0 (by omega)
     obtain ⟨z0, e3, _⟩ := cell _ _ _ g2
     have hl0 : cs0.length = n := by have := congrArg List.length e3; rwa [List.length_map, hc] at this
     obtain ⟨_, _, g3⟩ := World.cells?_some g1
     have g4 := g3 0 (by omega)
     rw [List.getElem?_eq_getElem (by omega)] at g4
     have g5 := World.cell?_spot g4
     unfold Addr.add at g5
     simpa using g5
 haveI : Inhabited (α × List Value) := ⟨(default, [])⟩
 obtain ⟨E, hE⟩ := choose_lt (α := α × List Value) (p := fun i r => r.2.map (absV W) = c r.1 ∧ Pr r.1 ∧ (∀ d y, r.2[d]? = some y → W.cell? ⟨a.block, a.off + i * n + d, none⟩ = some y) ∧ (0 < len → a.spot = none)) hx'
 have hL : ((List.range len).map fun i => (E i).1).length = len := by simp
 refine ⟨_, (List.range len).map fun i => (E i).1, rfl, ?_, by rw [hL]; exact maxLen_le (by omega), fun e he => ?_⟩
 · obtain ⟨b, off, spot⟩ := a
   cases len with
   | zero =>
     have e : absV W (.slice (some ⟨b, off, spot⟩) 0 cap) = .l (nb 0) 0 0 0 0 none := by unfold absV; simp only [if_pos h0]
     rw [e]
     exact .inr ⟨nb 0, 0, 0, 0, none, rfl, by simp, (s.blk 0 h0).1, fun hne => absurd rfl hne, fun i v hv => by simp at hv⟩
   | succ m =>
     have hs' : spot = none := (hE 0 (by omega)).2.2.2 (by omega)
     subst hs'
     have hcell : ∀ i, i < m + 1 → ∀ d y, (E i).2[d]? = some y → b < W.heap.size ∧ off + i * n + d < csz W b ∧ (∃ blk, h.heap.get (nb b) = some blk ∧ blk.min ≤ 0) ∧ Ev.cell h (nb b) 0 (off + i * n + d) = some (absV W y) :=
       fun i hi d y hy => s.cell ((hE i hi).2.2.1 d y hy)
     have hEl : ∀ i, i < m + 1 → (E i).2.length = n := fun i hi => by have := congrArg List.length (hE i hi).1; rwa [List.length_map, hc] at this
     obtain ⟨d1, d2, d3, d4⟩ := hcell m (by omega) (n - 1) _ (List.getElem?_eq_getElem (by rw [hEl m (by omega)]; omega))
     have e : absV W (.slice (some ⟨b, off, none⟩) (m + 1) cap) = .l (nb b) 0 off (m + 1) (csz W b) (some cap) := by unfold absV; simp only [if_pos (⟨d1, hl, Nat.lt_of_le_of_lt hm maxLen_lt⟩ : b < W.heap.size ∧ m + 1 ≤ cap ∧ cap < 18446744073709551616)]
     rw [e]
     have hmul : (m + 1) * n = m * n + n := by rw [Nat.add_mul, Nat.one_mul]
     refine .inr ⟨nb b, 0, off, csz W b, some cap, by rw [hL], by rw [hL, hmul]; omega, (s.blk b d1).1, fun _ => d3, fun j v hv => ?_⟩
     have hj : j < (((List.range (m + 1)).map fun i => (E i).1).flatMap c).length := (List.getElem?_eq_some_iff.1 hv).1
     rw [fm_len hc, hL] at hj
     obtain ⟨i, d, rfl, hd, hi⟩ : ∃ i d, j = i * n + d ∧ d < n ∧ i < m + 1 := ⟨j / n, j % n, by rw [Nat.mul_comm]; exact (Nat.div_add_mod j n).symm, Nat.mod_lt _ (by omega), Nat.div_lt_of_lt_mul (by rw [Nat.mul_comm]; exact hj)⟩
     rw [fm_get hc (by rw [hL]; exact hi) hd] at hv
     have hG : ((List.range (m + 1)).map fun i => (E i).1).getD i default = (E i).1 := by simp [List.getD, hi]
     have hy : (E i).2[d]? = some ((E i).2[d]'(by rw [hEl i hi]; exact hd)) := List.getElem?_eq_getElem _
     generalize (E i).2[d]'(by rw [hEl i hi]; exact hd) = y at hy
     rw [hG, ← (hE i hi).1] at hv
     have : ((E i).2.map (absV W)).getD d .u = absV W y := by simp [List.getD, hy]
     rw [this] at hv
     cases hv
     rw [← Nat.add_assoc]
     exact (hcell i hi d y hy).2.2.2
 · obtain ⟨i, hi, rfl⟩ := List.mem_map.1 he
   rw [List.mem_range] at hi
   exact (hE i hi).2.1
end
end Go.Ev
