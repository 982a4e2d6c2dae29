/-
  The evaluator against the model: regions that draw their order. One run, in the text's order, serves every order.
-/
import Derived.Test.YtiecpllnbekmoaaEvI
import Derived.Orders
set_option linter.all false
namespace Go.Ev
open Go

/-! ### Which operations come ahead of which -/
inductive Reach (ops : List Oper) : Nat → Nat → Prop
  | one {j : Nat} {o : Oper} {e : Edge} : ops[j]? = some o → e ∈ o.after.toList → Region.binds .any e = true → Reach ops j e.on
  | more {j : Nat} {o : Oper} {e : Edge} {i : Nat} : ops[j]? = some o → e ∈ o.after.toList → Region.binds .any e = true → Reach ops e.on i → Reach ops j i

theorem befOf_ok (done : List Nat) : ∀ (l : List Edge) (acc i : Nat), Nat.testBit (befOf done l acc) i = true →
    Nat.testBit acc i = true ∨ ∃ e ∈ l, Region.binds .any e = true ∧ (i = e.on ∨ Nat.testBit ((done[e.on]?).getD 0) i = true)
  | [], acc, i, h => .inl h
  | e :: r, acc, i, h => by
    unfold befOf at h
    cases hb : Region.binds .any e with
    | false =>
      rw [hb] at h
      rcases befOf_ok done r acc i h with h | ⟨e', h1, h2, h3⟩
      · exact .inl h
      · exact .inr ⟨e', by simp [h1], h2, h3⟩
    | true =>
      rw [hb] at h
      rcases befOf_ok done r _ i h with h | ⟨e', h1, h2, h3⟩
      · have h' : Nat.testBit ((acc ||| 2 ^ e.on) ||| (done[e.on]?).getD 0) i = true := h
        rw [Nat.testBit_or, Nat.testBit_or, Nat.testBit_two_pow] at h'
        simp only [Bool.or_eq_true, decide_eq_true_eq] at h'
        rcases h' with (h' | h') | h'
        · exact .inl h'
        · exact .inr ⟨e, by simp, hb, .inl h'.symm⟩
        · exact .inr ⟨e, by simp, hb, .inr h'⟩
      · exact .inr ⟨e', by simp [h1], h2, h3⟩

theorem befs_ok (ops : List Oper) : ∀ (l : List Oper) (done : List Nat), ops.drop done.length = l → (∀ j i, Nat.testBit ((done[j]?).getD 0) i = true → Reach ops j i) →
    ∀ j i, Nat.testBit (((befs l done)[j]?).getD 0) i = true → Reach ops j i
  | [], done, _, h => h
  | o :: l, done, hl, h => by
    unfold befs
    refine befs_ok ops l _ ?_ ?_
    · rw [List.length_append, ← List.drop_drop, hl]; rfl
    · intro j i hj
      have ho : ops[done.length]? = some o := by
        have := congrArg (fun l => l[0]?) hl
        simpa using this
      by_cases hjl : j < done.length
      · rw [List.getElem?_append_left hjl] at hj
        exact h j i hj
      · by_cases hje : j = done.length
        · subst hje
          simp at hj
          rcases befOf_ok done _ _ _ hj with h0 | ⟨e, h1, h2, h3⟩
          · simp at h0
          · rcases h3 with rfl | h3
            · exact .one ho h1 h2
            · exact .more ho h1 h2 (h _ _ h3)
        · rw [List.getElem?_eq_none (by simp; omega)] at hj
          simp at hj

theorem edgesUp_ok : ∀ (l : List Oper) (n : Nat), edgesUp n l = true → ∀ (k : Nat) o, l[k]? = some o → ∀ e ∈ o.after.toList, Region.binds .any e = true → e.on < n + k
  | [], n, h, k, o, hk, e, he, hb => by simp at hk
  | o' :: l, n, h, k, o, hk, e, he, hb => by
    unfold edgesUp at h
    simp only [Bool.and_eq_true, List.all_eq_true] at h
    cases k with
    | zero =>
      simp at hk
      subst hk
      have := h.1 e he
      simp only [hb, Bool.not_true, Bool.false_or] at this
      exact Nat.le_of_ble_eq_true this
    | succ k =>
      have := edgesUp_ok l (n + 1) h.2 k o (by simpa using hk) e he hb
      omega

theorem Reach.lt {ops : List Oper} (hu : edgesUp 0 ops = true) {j i : Nat} (h : Reach ops j i) : i < j := by
  induction h with
  | one h1 h2 h3 => have := edgesUp_ok ops 0 hu _ _ h1 _ h2 h3; omega
  | more h1 h2 h3 h4 ih => have := edgesUp_ok ops 0 hu _ _ h1 _ h2 h3; omega

def InL (listed : Array Bool) (i : Nat) : Prop := listed.getD i false = true
def Closed (ops : List Oper) (listed : Array Bool) : Prop := ∀ (j : Nat) o, ops[j]? = some o → InL listed j → ∀ e ∈ o.after.toList, Region.binds .any e = true → InL listed e.on
theorem Reach.inL {ops : List Oper} {listed : Array Bool} (hc : Closed ops listed) {j i : Nat} (h : Reach ops j i) : (∀ o, ops[j]? = some o → ∀ e ∈ o.after.toList, Region.binds .any e = true → InL listed e.on) → InL listed i := by
  induction h with
  | one h1 h2 h3 => intro hr; exact hr _ h1 _ h2 h3
  | more h1 h2 h3 h4 ih => intro hr; exact ih fun o ho e he hb => hc _ _ ho (hr _ h1 _ h2 h3) e he hb

theorem apartL_ok {a b : List Nat} (h : apartL a b = true) {x : Nat} (hx : x ∈ a) (hy : x ∈ b) : False := by
  unfold apartL at h
  rw [List.all_eq_true] at h
  have := h x hx
  rw [List.all_eq_true] at this
  have := this x hy
  simp at this

theorem zip_mem {ops : List Oper} {i : Nat} {o : Oper} (h : ops[i]? = some o) : (o, i) ∈ ops.zipIdx := by
  rw [List.mem_zipIdx_iff_getElem?]; exact h

theorem pair_ok {ops : List Oper} (h : drawsOk ops = true) {i j : Nat} {oi oj : Oper} (hi : ops[i]? = some oi) (hj : ops[j]? = some oj) (hij : i < j) : Reach ops j i ∨ slotsOk ops oi oj = true := by
  simp only [drawsOk, Bool.and_eq_true, List.all_eq_true] at h
  have hp := h.2.2 (oi, i) (zip_mem hi) (oj, j) (zip_mem hj)
  unfold pairOk at hp
  simp only [Bool.or_eq_true] at hp
  rcases hp with hp | hp | hp
  · have := Nat.le_of_ble_eq_true hp; omega
  · exact .inl (befs_ok ops ops [] rfl (fun j i h => by simp at h) j i hp)
  · exact .inr hp

theorem bar_ok {P : Program} {ops : List Oper} {i j : Nat} {oj : Oper} (hb : barAt P ops (befs ops []) i = true) (hj : ops[j]? = some oj) (hs : still P oj.op = false) (hij : i ≠ j) : Reach ops j i ∨ Reach ops i j := by
  unfold barAt at hb
  cases hi : ops[i]? with
  | none => rw [hi] at hb; cases hb
  | some oi =>
    rw [hi] at hb
    simp only [barOf, Bool.and_eq_true, List.all_eq_true] at hb
    have := hb.2 (oj, j) (zip_mem hj)
    simp only [hs, Bool.false_or, Bool.or_eq_true] at this
    rcases this with h | h | h
    · exact absurd (Nat.eq_of_beq_eq_true h) hij
    · exact .inl (befs_ok ops ops [] rfl (fun j i h => by simp at h) j i h)
    · exact .inr (befs_ok ops ops [] rfl (fun j i h => by simp at h) i j h)
theorem bar_loud {P : Program} {ops : List Oper} {i : Nat} {oi : Oper} (hb : barAt P ops (befs ops []) i = true) (hi : ops[i]? = some oi) : still P oi.op = false := by
  unfold barAt at hb
  rw [hi] at hb
  simp only [barOf, Bool.and_eq_true] at hb
  simpa using hb.1

/-! ### The relation, turned -/
noncomputable def Emb.below (ρ : Emb) (n : B) : Emb := fun id g => if B.val id < B.val n then ρ id g else none
theorem Emb.below_some {ρ : Emb} {n id : B} {g : Nat} {L : Loc} (h : ρ.below n id g = some L) : ρ id g = some L ∧ B.val id < B.val n := by
  unfold Emb.below at h
  split at h
  · exact ⟨h, by assumption⟩
  · cases h
theorem Emb.below_of {ρ : Emb} {n id : B} {g : Nat} {L : Loc} (h : ρ id g = some L) (hn : B.val id < B.val n) : ρ.below n id g = some L := by
  unfold Emb.below; rw [if_pos hn]; exact h

theorem HRel.later {ρ : Emb} {h h' : H} {w w0 : World} (R : HRel ρ h w w0) (hg : ∀ id g L, ρ id g = some L → h'.heap.get id = h.heap.get id) (hn : B.val h.next ≤ B.val h'.next) (hf : h'.floor = h.floor) : HRel ρ h' w w0 := by
  refine ⟨fun id g L hL => ?_, fun id g L hL => Nat.lt_of_lt_of_le (R.ids _ _ _ hL) hn, R.sep, by rw [hf]; exact Nat.le_trans R.flo hn, R.old, fun id g L hL hfl => R.up _ _ _ hL (by rw [← hf]; exact hfl), R.tp, R.os, R.out, R.siz, R.mp.of (Emb.le_refl ρ) fun id L blk h1 h2 _ => ⟨h1, (hg _ _ _ h1).symm.trans h2, rfl⟩, R.ito.of fun id g L blk h1 h2 _ _ => ⟨h1, (hg _ _ _ h1).symm.trans h2, rfl⟩⟩
  obtain ⟨blk, a1, a2⟩ := R.loc _ _ _ hL
  exact ⟨blk, (hg _ _ _ hL).trans a1, a2⟩
theorem HRel.congr {ρ ρ' : Emb} {h : H} {w w0 : World} (R : HRel ρ h w w0) (he : ∀ id g, ρ' id g = ρ id g) : HRel ρ' h w w0 := by
  have : ρ' = ρ := by funext id g; exact he id g
  rw [this]; exact R
theorem HRel.refloor {ρ : Emb} {h : H} {w w0 : World} (R : HRel ρ h w w0) : HRel ρ (reFloor h) w w := by
  obtain ⟨n, f, hp⟩ := h
  exact ⟨R.loc, R.ids, R.sep, Nat.le_refl _, fun _ _ => rfl, fun id g L hL hf => absurd (R.ids _ _ _ hL) (Nat.not_lt.2 hf), rfl, rfl, rfl, Nat.le_refl _, R.mp, R.ito⟩

/-- the old blocks, and new ones beside them -/
theorem HRel.merge {ρ1 ρ2 ρ3 : Emb} {h h2 : H} {w w' w0 : World} (A : HRel ρ1 h w w0) (hB : HRel ρ2 h2 w' w) (h13 : ρ1.le ρ3) (h23 : ρ2.le ρ3)
    (h3 : ∀ id g L, ρ3 id g = some L → ρ1 id g = some L ∨ (ρ2 id g = some L ∧ B.val h2.floor ≤ B.val id ∧ B.val id < B.val h.next ∧ h.heap.get id = h2.heap.get id)) : HRel ρ3 h w' w0 := by
  have A' := A.grow (w' := w') hB.old hB.siz hB.tp hB.os hB.out
  refine ⟨fun id g L hL => ?_, fun id g L hL => ?_, fun id g L id' g' L' hL hL' hbb => ?_, A.flo, A'.old, fun id g L hL hf => ?_, A'.tp, A'.os, A'.out, A'.siz, fun id L blk h1 hb2 h3' => ?_, fun id g L blk ob h1 hb2 hg h3' h5' => ?_⟩
  · rcases h3 _ _ _ hL with h1 | ⟨h1, _, _, hh⟩
    · obtain ⟨blk, a1, a2, a3, a4, a5, a6, a7⟩ := A'.loc _ _ _ h1
      refine ⟨blk, a1, a2, a3, a4, a5, a6, fun hm => ?_⟩
      obtain ⟨c, el, b1, b2, b3, b4⟩ := a7 hm
      refine ⟨c, el, b1, b2, b3, fun i i1 i2 => ?_⟩
      obtain ⟨v, x, d1, d2, d3⟩ := b4 i i1 i2
      exact ⟨v, x, d1, d2, VRel.up h13 _ _ d3⟩
    · obtain ⟨blk, a1, a2, a3, a4, a5, a6, a7⟩ := hB.loc _ _ _ h1
      refine ⟨blk, hh.trans a1, a2, a3, a4, a5, a6, fun hm => ?_⟩
      obtain ⟨c, el, b1, b2, b3, b4⟩ := a7 hm
      refine ⟨c, el, b1, b2, b3, fun i i1 i2 => ?_⟩
      obtain ⟨v, x, d1, d2, d3⟩ := b4 i i1 i2
      exact ⟨v, x, d1, d2, VRel.up h23 _ _ d3⟩
  · rcases h3 _ _ _ hL with h1 | ⟨h1, _, h4, _⟩
    · exact A.ids _ _ _ h1
    · exact h4
  · rcases h3 _ _ _ hL with h1 | ⟨h1, f1, _, _⟩ <;> rcases h3 _ _ _ hL' with h2' | ⟨h2', f2, _, _⟩
    · exact A.sep _ _ _ _ _ _ h1 h2' hbb
    · obtain ⟨_, _, _, a3, _⟩ := A.loc _ _ _ h1
      have := hB.up _ _ _ h2' f2
      omega
    · obtain ⟨_, _, _, a3, _⟩ := A.loc _ _ _ h2'
      have := hB.up _ _ _ h1 f1
      omega
    · exact hB.sep _ _ _ _ _ _ h1 h2' hbb
  · rcases h3 _ _ _ hL with h1 | ⟨h1, f1, _, _⟩
    · exact A.up _ _ _ h1 hf
    · exact Nat.le_trans A.siz (hB.up _ _ _ h1 f1)
  · rcases h3 _ _ _ h1 with h4 | ⟨h4, _, _, hh⟩
    · obtain ⟨es, clock, q1, q2⟩ := A'.mp id L blk h4 hb2 h3'
      exact ⟨es, clock, q1, q2.up h13⟩
    · obtain ⟨es, clock, q1, q2⟩ := hB.mp id L blk h4 (hh.symm.trans hb2) h3'
      exact ⟨es, clock, q1, q2.up h23⟩
  · rcases h3 _ _ _ h1 with h4 | ⟨h4, _, _, hh⟩
    · exact A'.ito id g L blk ob h4 hb2 hg h3' h5'
    · exact hB.ito id g L blk ob h4 (hh.symm.trans hb2) hg h3' h5'

/-! ### The run in the text's order -/
def Looks (nt : Nat) (ops : List Oper) (o : Oper) (ρ : Emb) (t : F) (a : Act) : Prop := a.tmps.size = nt ∧ ∀ q ∈ looks ops o, q < 512 → VRel ρ (sGet (slOf q) t) (a.tmps.getD q undef)

theorem looks_ops {nt : Nat} {ops : List Oper} {o : Oper} {ρ : Emb} {t : F} {a : Act} (h : Looks nt ops o ρ t a) : ORel ρ t a o.op.operands.toList := by
  intro x hx
  cases x with
  | tmp q =>
    show VRel ρ (oV (match Nat.ble (q + 1) 512 with | true => .t (slOf q) | false => .c .u) t) _
    cases hn : Nat.ble (q + 1) 512 with
    | true => exact h.2 q (by simp only [looks, List.mem_append, List.mem_flatMap]; exact .inr ⟨_, hx, by simp [slotsOf]⟩) (Nat.le_of_ble_eq_true hn)
    | false => trivial
  | const v => exact ofConst_rel ρ v
  | global g => trivial
  | func f => exact ⟨#[], rfl, trivial⟩

structure StepOk (P : Program) (nt : Nat) (ops : Array Oper) (i : Nat) (o : Oper) (bar : Bool) (t t' : F) (h h' : H) : Prop where
  dst : ∀ q, o.dst = some q → q < nt ∧ q < 512
  rest : ∀ q, q < 512 → o.dst ≠ some q → sGet (slOf q) t' = sGet (slOf q) t
  calm : still P o.op = true → h' = h
  ex : ∃ v h2, (∀ q, o.dst = some q → sGet (slOf q) t' = v) ∧ KeepF (if bar then h else reFloor h) h2 ∧ B.val h.next ≤ B.val h2.next ∧ h' = (if bar then h2 else unFloor h h2) ∧
    (∀ ρ a w wb (K : Act → World → Prop) (Q : Exit → Act → World → Prop), Looks nt ops.toList o ρ t a → HRel ρ (if bar then h else reFloor h) w wb →
      (∀ ρ' x w', Ext (if bar then h else reFloor h).floor ρ ρ' → VRel ρ' v x → HRel ρ' h2 w' wb → K (a.put o.dst x) w') → wpOp P ops Q i K a w) ∧
    (still P o.op = true → ∀ ρ a w (K : Act → World → Prop) (Q : Exit → Act → World → Prop), Looks nt ops.toList o ρ t a → (∀ x, VRel ρ v x → K (a.put o.dst x) w) → wpOp P ops Q i K a w)

theorem putD_ok {nt : Nat} {dst : Option Tmp} {v : V} {t : F} {k : F → Bool} (hk : putD (dOf nt dst) v t k = true) :
    ∃ t', (∀ k', putD (dOf nt dst) v t k' = k' t') ∧ (∀ q, dst = some q → q < nt ∧ q < 512) ∧ (∀ q, dst = some q → sGet (slOf q) t' = v) ∧ ∀ q, q < 512 → dst ≠ some q → sGet (slOf q) t' = sGet (slOf q) t := by
  cases dst with
  | none => exact ⟨t, fun _ => rfl, (fun q h => by cases h), (fun q h => by cases h), fun _ _ _ => rfl⟩
  | some d =>
    have e : dOf nt (some d) = match Nat.ble (Nat.succ d) nt && Nat.ble (Nat.succ d) 512 with | true => .some (slOf d) | false => .bad := rfl
    rw [e] at hk ⊢
    cases hb : (Nat.ble (Nat.succ d) nt && Nat.ble (Nat.succ d) 512) with
    | false => rw [hb] at hk; exact Bool.noConfusion hk
    | true =>
      obtain ⟨t', h1, h2, h3⟩ := sPut_ok (slOf d) v t
      simp only [Bool.and_eq_true] at hb
      have hn : d < nt := Nat.le_of_ble_eq_true hb.1
      have h5 : d < 512 := Nat.le_of_ble_eq_true hb.2
      refine ⟨t', fun k' => h1 k', (fun q h => by cases h; exact ⟨hn, h5⟩), (fun q h => by cases h; exact h2), fun q hq hne => h3 _ fun e => hne (by rw [slOf_inj hq h5 e])⟩

theorem wpOp_of_wanted {P : Program} {ops : Array Oper} {Q : Exit → Act → World → Prop} {i : Nat} {o : Oper} {K : Act → World → Prop} {a : Act} {w : World} (hi : ops[i]? = some o)
    (h : if Region.wanted o (yielded ops a.tmps) then o.wp P a w K Q else K (a.put o.dst undef) w) : wpOp P ops Q i K a w := by
  unfold wpOp
  simp only [hi]
  split
  · rename_i hw; simp only [hw, if_true] at h; exact .inl h
  · rename_i hw; simp only [hw] at h; exact h

theorem reFloor_next (h : H) : (reFloor h).next = h.next := by cases h; rfl
theorem reFloor_floor (h : H) : (reFloor h).floor = h.next := by cases h; rfl
theorem reFloor_heap (h : H) : (reFloor h).heap = h.heap := by cases h; rfl
theorem unFloor_mk (h h2 : H) : unFloor h h2 = ⟨h2.next, h.floor, h2.heap⟩ := by cases h; cases h2; rfl
theorem unFloor_reFloor (h : H) : unFloor h (reFloor h) = h := by cases h; rfl

theorem dr_step {P : Program} {cf : CallF} (hcf : CfOk P cf) {nt : Nat} {ops : Array Oper} {i : Nat} {o : Oper} (hi : ops[i]? = some o) {bar : Bool} {t : F} {h : H} {ih : F → H → (F → H → Bool) → Bool} {k : F → H → Bool}
    (hk : drK ⟨compG nt ops.toList o.guard, dOf nt o.dst, bar, compOp P o.op⟩ cf ih t h k = true) :
    ∃ t' h', (∀ k', drK ⟨compG nt ops.toList o.guard, dOf nt o.dst, bar, compOp P o.op⟩ cf ih t h k' = ih t' h' k') ∧ StepOk P nt ops i o bar t t' h h' := by
  have e : ∀ k', drK ⟨compG nt ops.toList o.guard, dOf nt o.dst, bar, compOp P o.op⟩ cf ih t h k' = guardK (compG nt ops.toList o.guard) t fun b => drGo b bar (compOp P o.op) (dOf nt o.dst) cf ih t h k' := fun _ => rfl
  rw [e] at hk
  obtain ⟨b, g1, g2⟩ := guard_ok hk
  rw [g1] at hk
  have hw : ∀ ρ a, Looks nt ops.toList o ρ t a → Region.wanted o (yielded ops a.tmps) = b := fun ρ a hl =>
    g2 ρ a hl.1 fun d hd h5 => hl.2 d (by simp only [looks, List.mem_append]; exact .inl hd) h5
  cases b with
  | false =>
    have e2 : ∀ k', drGo false bar (compOp P o.op) (dOf nt o.dst) cf ih t h k' = putD (dOf nt o.dst) (.tu []) t fun t => ih t h k' := by intro k'; cases bar <;> rfl
    rw [e2] at hk
    obtain ⟨t', p1, p2, p3, p4⟩ := putD_ok hk
    refine ⟨t', h, fun k' => by rw [e, g1, e2, p1], p2, p4, fun _ => rfl, .tu [], if bar then h else reFloor h, p3, KeepF.refl _, by cases bar <;> simp [reFloor_next], by cases bar <;> simp [unFloor_reFloor], fun ρ a w wb K Q hl R hK => ?_, fun _ ρ a w K Q hl hK => ?_⟩
    · refine wpOp_of_wanted hi ?_
      rw [hw ρ a hl]
      simp only [Bool.false_eq_true, if_false]
      exact hK ρ undef w (Ext.refl _ ρ) ⟨#[], rfl, trivial⟩ R
    · refine wpOp_of_wanted hi ?_
      rw [hw ρ a hl]
      simp only [Bool.false_eq_true, if_false]
      exact hK undef ⟨#[], rfl, trivial⟩
  | true =>
    cases bar with
    | true =>
      have e2 : ∀ k', drGo true true (compOp P o.op) (dOf nt o.dst) cf ih t h k' = runK (compOp P o.op) cf t h (fun v h => putD (dOf nt o.dst) v t fun t => ih t h k') := fun _ => rfl
      rw [e2] at hk
      obtain ⟨v, h', r1, r2, r3, r4, r5⟩ := compOp_ok P o cf hcf t h _ hk
      rw [r1] at hk
      obtain ⟨t', p1, p2, p3, p4⟩ := putD_ok hk
      refine ⟨t', h', fun k' => by rw [e, g1, e2, r1, p1], p2, p4, fun hs => (r5 hs).1, v, h', p3, r2, r3, rfl, fun ρ a w wb K Q hl R hK => ?_, fun hs ρ a w K Q hl hK => ?_⟩
      · refine wpOp_of_wanted hi ?_
        rw [hw ρ a hl]
        simp only [if_true]
        obtain ⟨nx, w1, x1, x2⟩ := r4 ρ a w wb (looks_ops hl) R
        unfold Oper.wp
        rw [x1]
        exact x2.upon fun x w' ⟨ρ', y1, y2, y3⟩ => hK ρ' x w' y1 y2 y3
      · refine wpOp_of_wanted hi ?_
        rw [hw ρ a hl]
        simp only [if_true]
        obtain ⟨x, x1, x2⟩ := (r5 hs).2 ρ a w (looks_ops hl)
        unfold Oper.wp
        rw [x1]
        exact hK x x2
    | false =>
      have e2 : ∀ k', drGo true false (compOp P o.op) (dOf nt o.dst) cf ih t h k' = runK (compOp P o.op) cf t (reFloor h) (fun v h2 => putD (dOf nt o.dst) v t fun t => ih t (unFloor h h2) k') := fun _ => rfl
      rw [e2] at hk
      obtain ⟨v, h2, r1, r2, r3, r4, r5⟩ := compOp_ok P o cf hcf t (reFloor h) _ hk
      rw [r1] at hk
      obtain ⟨t', p1, p2, p3, p4⟩ := putD_ok hk
      refine ⟨t', unFloor h h2, fun k' => by rw [e, g1, e2, r1, p1], p2, p4, fun hs => by rw [(r5 hs).1, unFloor_reFloor], v, h2, p3, r2, by rw [← reFloor_next]; exact r3, rfl, fun ρ a w wb K Q hl R hK => ?_, fun hs ρ a w K Q hl hK => ?_⟩
      · refine wpOp_of_wanted hi ?_
        rw [hw ρ a hl]
        simp only [if_true]
        obtain ⟨nx, w1, x1, x2⟩ := r4 ρ a w wb (looks_ops hl) R
        unfold Oper.wp
        rw [x1]
        exact x2.upon fun x w' ⟨ρ', y1, y2, y3⟩ => hK ρ' x w' y1 y2 y3
      · refine wpOp_of_wanted hi ?_
        rw [hw ρ a hl]
        simp only [if_true]
        obtain ⟨x, x1, x2⟩ := (r5 hs).2 ρ a w (looks_ops hl)
        unfold Oper.wp
        rw [x1]
        exact hK x x2

theorem dr_trace {P : Program} {cf : CallF} (hcf : CfOk P cf) {nt : Nat} {ops : Array Oper} (bars : Nat → Bool) : ∀ (l : List Oper) (n : Nat), ops.toList.drop n = l → ∀ (t : F) (h : H) (k : F → H → Bool),
    execDr cf (compOpsWith bars P nt ops.toList (compOp P) n l) t h k = true →
    ∃ (Ts : Nat → F) (Hs : Nat → H), Ts n = t ∧ Hs n = h ∧ (∀ k', execDr cf (compOpsWith bars P nt ops.toList (compOp P) n l) t h k' = k' (Ts (n + l.length)) (Hs (n + l.length))) ∧
      ∀ (i : Nat) o, n ≤ i → ops[i]? = some o → StepOk P nt ops i o (bars i) (Ts i) (Ts (i + 1)) (Hs i) (Hs (i + 1)) := by
  intro l
  induction l with
  | nil =>
    intro n hl t h k hk
    refine ⟨fun _ => t, fun _ => h, rfl, rfl, fun _ => rfl, fun i o hni hi => ?_⟩
    have : ops.toList[i]? = none := by
      rw [List.getElem?_eq_none]
      have := congrArg List.length hl
      simp at this
      simp; omega
    rw [show ops[i]? = ops.toList[i]? by simp, this] at hi
    cases hi
  | cons o l ih =>
    intro n hl t h k hk
    have hn : ops[n]? = some o := by
      have : ops.toList[n]? = some o := by
        have := congrArg (fun l => l[0]?) hl
        simpa using this
      simpa using this
    have e : ∀ k', execDr cf (compOpsWith bars P nt ops.toList (compOp P) n (o :: l)) t h k' =
      drK ⟨compG nt ops.toList o.guard, dOf nt o.dst, bars n, compOp P o.op⟩ cf (execDr cf (compOpsWith bars P nt ops.toList (compOp P) (n + 1) l)) t h k' := fun _ => rfl
    rw [e] at hk
    obtain ⟨t1, h1, a1, a2⟩ := dr_step hcf hn hk
    rw [a1] at hk
    have hl' : ops.toList.drop (n + 1) = l := by rw [← List.drop_drop, hl]; rfl
    obtain ⟨Ts, Hs, b1, b2, b3, b4⟩ := ih (n + 1) hl' t1 h1 k hk
    refine ⟨fun i => if i = n then t else Ts i, fun i => if i = n then h else Hs i, by simp, by simp, fun k' => ?_, fun i oi hni hi => ?_⟩
    · rw [e, a1, b3]
      have e1 : n + (o :: l).length = n + 1 + l.length := by simp; omega
      rw [e1]
      simp only [show ¬ n + 1 + l.length = n by omega, if_false]
    · by_cases hin : i = n
      · subst hin
        rw [hn] at hi
        cases hi
        simp only [if_true, show ¬ i + 1 = i by omega, if_false, b1, b2]
        exact a2
      · simp only [hin, if_false, show ¬ i + 1 = n by omega]
        exact b4 i oi (by omega) hi

/-! ### Every order -/
section
variable {P : Program} {nt : Nat} {ops : Array Oper} {Ts : Nat → F} {Hs : Nat → H}

theorem Emb.below_le (ρ : Emb) (n : B) : (ρ.below n).le ρ := fun _ _ _ h => (Emb.below_some h).1
theorem Emb.below_mono {ρ ρ' : Emb} (h : ρ.le ρ') {m n : B} (hn : B.val m ≤ B.val n) : (ρ.below m).le (ρ'.below n) :=
  fun _ _ _ hL => Emb.below_of (h _ _ _ (Emb.below_some hL).1) (Nat.lt_of_lt_of_le (Emb.below_some hL).2 hn)

def Emb.or (ρ ρ' : Emb) : Emb := fun id g => (ρ id g).or (ρ' id g)
structure Inv (P : Program) (nt : Nat) (ops : Array Oper) (Ts : Nat → F) (Hs : Nat → H) (ρ0 : Emb) (w0 : World) (listed : Array Bool) (a : Act) (w : World) (ρ : Emb) (s M : Nat) : Prop where
  size : a.tmps.size = nt
  defers : a.defers = []
  ext : Ext (Hs 0).floor ρ0 ρ
  slots : ∀ q, q < 512 → ∃ m, m ≤ ops.size ∧ (m = 0 ∨ ∃ j o, m = j + 1 ∧ ops[j]? = some o ∧ o.dst = some q) ∧ (∀ (j : Nat) o, ops[j]? = some o → o.dst = some q → (j < m ↔ InL listed j)) ∧ VRel (ρ.below (Hs m).next) (sGet (slOf q) (Ts m)) (a.tmps.getD q undef)
  sM : s ≤ M
  MN : M ≤ ops.size
  lo : ∀ (j : Nat) o, ops[j]? = some o → still P o.op = false → j < s → InL listed j
  hi : ∀ (j : Nat) o, ops[j]? = some o → still P o.op = false → M ≤ j → ¬ InL listed j
  nobar : ∀ j, s ≤ j → j < M → barAt P ops.toList (befs ops.toList []) j = false
  atM : M = ops.size ∨ barAt P ops.toList (befs ops.toList []) M = true
  dom : ∀ id g L, ρ id g = some L → B.val id < B.val (Hs M).next
  domD : ∀ id g L, ρ id g = some L → ∀ (j : Nat) o, ops[j]? = some o → ¬ InL listed j → ¬ (B.val (Hs j).next ≤ B.val id ∧ B.val id < B.val (Hs (j + 1)).next)
  heap : ∀ m, s ≤ m → m ≤ M → HRel (ρ.below (Hs m).next) (Hs m) w w0

variable (hd : drawsOk ops.toList = true) (hst : ∀ (i : Nat) o, ops[i]? = some o → StepOk P nt ops i o (barAt P ops.toList (befs ops.toList []) i) (Ts i) (Ts (i + 1)) (Hs i) (Hs (i + 1)))
include hd hst

omit hd in
theorem st_next {i : Nat} {o : Oper} (hi : ops[i]? = some o) : B.val (Hs i).next ≤ B.val (Hs (i + 1)).next ∧ (Hs (i + 1)).floor = (Hs i).floor := by
  obtain ⟨v, h2, e1, e2, e3, e4, _⟩ := (hst i o hi).ex
  cases hb : barAt P ops.toList (befs ops.toList []) i with
  | true => rw [hb] at e2 e4; simp only [if_true] at e2 e4; rw [e4]; exact ⟨e3, e2.1⟩
  | false => rw [hb] at e4; simp only [Bool.false_eq_true, if_false] at e4; rw [e4, unFloor_mk]; exact ⟨e3, rfl⟩
omit hd in
theorem st_keep {i : Nat} {o : Oper} (hi : ops[i]? = some o) (hb : barAt P ops.toList (befs ops.toList []) i = false) {id : B} (hid : B.val id < B.val (Hs i).next) : (Hs (i + 1)).heap.get id = (Hs i).heap.get id := by
  obtain ⟨v, h2, e1, e2, e3, e4, _⟩ := (hst i o hi).ex
  rw [hb] at e2 e4
  simp only [Bool.false_eq_true, if_false] at e2 e4
  rw [e4, unFloor_mk]
  have := e2.2 (by rw [reFloor_floor, reFloor_next]; exact Nat.le_refl _) id (by rw [reFloor_floor]; exact hid)
  rw [reFloor_heap] at this
  exact this
omit hd in
theorem nx_mono : ∀ {m n : Nat}, m ≤ n → n ≤ ops.size → B.val (Hs m).next ≤ B.val (Hs n).next := by
  intro m n hmn
  induction n with
  | zero => intro _; have : m = 0 := by omega
            subst this; exact Nat.le_refl _
  | succ n ih =>
    intro hn
    by_cases h : m ≤ n
    · have hi : ops[n]? = some (ops[n]'(by omega)) := by simp
      exact Nat.le_trans (ih h (by omega)) (st_next hst hi).1
    · have : m = n + 1 := by omega
      subst this; exact Nat.le_refl _
omit hd in
theorem fl_same : ∀ {n : Nat}, n ≤ ops.size → (Hs n).floor = (Hs 0).floor := by
  intro n
  induction n with
  | zero => intro _; rfl
  | succ n ih =>
    intro hn
    have hi : ops[n]? = some (ops[n]'(by omega)) := by simp
    exact (st_next hst hi).2.trans (ih (by omega))
omit hd in
theorem seg_keep {s M : Nat} (hMN : M ≤ ops.size) (hnb : ∀ j, s ≤ j → j < M → barAt P ops.toList (befs ops.toList []) j = false) : ∀ {m n : Nat}, s ≤ m → m ≤ n → n ≤ M → ∀ {id : B}, B.val id < B.val (Hs m).next → (Hs n).heap.get id = (Hs m).heap.get id := by
  intro m n hsm hmn
  induction n with
  | zero => intro _ id _; have : m = 0 := by omega
            subst this; rfl
  | succ n ih =>
    intro hn id hid
    by_cases h : m ≤ n
    · have hi : ops[n]? = some (ops[n]'(by omega)) := by simp
      rw [st_keep hst hi (hnb n (by omega) (by omega)) (Nat.lt_of_lt_of_le hid (nx_mono hst h (by omega)))]
      exact ih h (by omega) hid
    · have : m = n + 1 := by omega
      subst this; rfl
omit hd in
theorem slot_same : ∀ {m n q : Nat}, q < 512 → m ≤ n → n ≤ ops.size → (∀ (j : Nat) o, ops[j]? = some o → o.dst = some q → m ≤ j → j < n → False) → sGet (slOf q) (Ts n) = sGet (slOf q) (Ts m) := by
  intro m n q hq hmn
  induction n with
  | zero => intro _ _; have : m = 0 := by omega
            subst this; rfl
  | succ n ih =>
    intro hn hno
    by_cases h : m ≤ n
    · have hi : ops[n]? = some (ops[n]'(by omega)) := by simp
      rw [(hst n _ hi).rest q hq (fun e => hno n _ hi e h (by omega))]
      exact ih h (by omega) fun j o hj hd h1 h2 => hno j o hj hd h1 (by omega)
    · have : m = n + 1 := by omega
      subst this; rfl

/-- of an operation that may come up, whoever writes what it looks at, or writes where it writes, has come up if and only if it stands ahead of it -/
theorem ahead {listed : Array Bool} (hc : Closed ops.toList listed) {i : Nat} {oi : Oper} (hi : ops[i]? = some oi) (hni : ¬ InL listed i) (hr : ∀ e ∈ oi.after.toList, Region.binds .any e = true → InL listed e.on)
    {q : Nat} (hq : q ∈ looks ops.toList oi ∨ oi.dst = some q) {j : Nat} {oj : Oper} (hj : ops[j]? = some oj) (hdj : oj.dst = some q) (hji : j ≠ i) : j < i ↔ InL listed j := by
  have hi' : ops.toList[i]? = some oi := by simpa using hi
  have hj' : ops.toList[j]? = some oj := by simpa using hj
  have hqj : q ∈ dstL oj := by simp [dstL, hdj]
  constructor
  · intro hlt
    rcases pair_ok hd hj' hi' hlt with h | h
    · exact h.inL hc fun o ho e he hb => by rw [hi'] at ho; cases ho; exact hr e he hb
    · simp only [slotsOk, Bool.and_eq_true] at h
      rcases hq with hq | hq
      · exact (apartL_ok h.2.1 hqj hq).elim
      · exact (apartL_ok h.1 hqj (by simp [dstL, hq])).elim
  · intro hin
    refine Decidable.byContradiction fun hlt => ?_
    have hlt' : i < j := by omega
    rcases pair_ok hd hi' hj' hlt' with h | h
    · exact hni (h.inL hc fun o ho e he hb => hc j o ho hin e he hb)
    · simp only [slotsOk, Bool.and_eq_true] at h
      rcases hq with hq | hq
      · exact (apartL_ok h.2.2 hqj hq).elim
      · exact (apartL_ok h.1 (by simp [dstL, hq]) hqj).elim

theorem look_ok {listed : Array Bool} (hc : Closed ops.toList listed) {ρ0 : Emb} {w0 : World} {a : Act} {w : World} {ρ : Emb} {s M : Nat} (I : Inv P nt ops Ts Hs ρ0 w0 listed a w ρ s M)
    {i : Nat} {oi : Oper} (hi : ops[i]? = some oi) (hni : ¬ InL listed i) (hr : ∀ e ∈ oi.after.toList, Region.binds .any e = true → InL listed e.on) : Looks nt ops.toList oi (ρ.below (Hs i).next) (Ts i) a := by
  refine ⟨I.size, fun q hq h5 => ?_⟩
  obtain ⟨m, hm, hm0, hw, hv⟩ := I.slots q h5
  have hiN : i < ops.size := (Array.getElem?_eq_some_iff.1 hi).1
  have key : ∀ (j : Nat) o, ops[j]? = some o → o.dst = some q → j ≠ i → (j < m ↔ j < i) := fun j o hj hdj hji => (hw j o hj hdj).trans (ahead hd hst hc hi hni hr (.inl hq) hj hdj hji).symm
  have self : oi.dst = some q → ¬ i < m := fun hdi h => hni ((hw i oi hi hdi).1 h)
  have hmi : m ≤ i := by
    rcases hm0 with h0 | ⟨j, o, rfl, hj, hdj⟩
    · omega
    · by_cases hji : j = i
      · subst hji
        rw [hi] at hj; cases hj
        exact absurd (Nat.lt_succ_self j) (self hdj)
      · have := (key j o hj hdj hji).1 (Nat.lt_succ_self j)
        omega
  have : sGet (slOf q) (Ts i) = sGet (slOf q) (Ts m) := by
    refine slot_same hst h5 hmi (by omega) fun j o hj hdj h1 h2 => ?_
    have := (key j o hj hdj (by omega)).2 h2
    omega
  rw [this]; exact VRel.up (Emb.below_mono (Emb.le_refl ρ) (nx_mono hst hmi (by omega))) _ _ hv

/-- the slots behind an operation -/
theorem slots_put {listed : Array Bool} (hc : Closed ops.toList listed) {ρ0 : Emb} {w0 : World} {a : Act} {w : World} {ρ : Emb} {s M : Nat} (I : Inv P nt ops Ts Hs ρ0 w0 listed a w ρ s M)
    {i : Nat} {oi : Oper} (hi : ops[i]? = some oi) (hni : ¬ InL listed i) (hr : ∀ e ∈ oi.after.toList, Region.binds .any e = true → InL listed e.on) {listed' : Array Bool} (hl : ∀ j, InL listed' j ↔ (InL listed j ∨ j = i))
    {ρ' : Emb} (hle : ρ.le ρ') {x : Value} (hx : ∀ q, oi.dst = some q → VRel (ρ'.below (Hs (i + 1)).next) (sGet (slOf q) (Ts (i + 1))) x) :
    ∀ q, q < 512 → ∃ m, m ≤ ops.size ∧ (m = 0 ∨ ∃ j o, m = j + 1 ∧ ops[j]? = some o ∧ o.dst = some q) ∧ (∀ (j : Nat) o, ops[j]? = some o → o.dst = some q → (j < m ↔ InL listed' j)) ∧ VRel (ρ'.below (Hs m).next) (sGet (slOf q) (Ts m)) ((a.put oi.dst x).tmps.getD q undef) := by
  intro q h5
  have hiN : i < ops.size := (Array.getElem?_eq_some_iff.1 hi).1
  by_cases hdq : oi.dst = some q
  · refine ⟨i + 1, by omega, .inr ⟨i, oi, rfl, hi, hdq⟩, fun j o hj hdj => ?_, ?_⟩
    · rw [hl]
      by_cases hji : j = i
      · subst hji; constructor
        · intro _; exact .inr rfl
        · intro _; omega
      · have := ahead hd hst hc hi hni hr (.inr hdq) hj hdj hji
        constructor
        · intro h; exact .inl (this.1 (by omega))
        · rintro (h | h)
          · have := this.2 h; omega
          · exact absurd h hji
    · have hqn := ((hst i oi hi).dst q hdq).1
      have : ((a.put oi.dst x).tmps.getD q undef) = x := by rw [hdq]; simp [Act.put, I.size, hqn]
      rw [this]; exact hx q hdq
  · obtain ⟨m, hm, hm0, hw, hv⟩ := I.slots q h5
    refine ⟨m, hm, hm0, fun j o hj hdj => ?_, ?_⟩
    · rw [hl, hw j o hj hdj]
      constructor
      · intro h; exact .inl h
      · rintro (h | h)
        · exact h
        · subst h; rw [hi] at hj; cases hj; exact absurd hdj hdq
    · have : ((a.put oi.dst x).tmps.getD q undef) = a.tmps.getD q undef := by
        cases hdst : oi.dst with
        | none => rfl
        | some d =>
          simp only [Act.put, Array.getD_eq_getD_getElem?, Array.getElem?_setIfInBounds]
          rw [if_neg (fun e => hdq (by rw [hdst, e]))]
      rw [this]; exact VRel.up (Emb.below_mono hle (Nat.le_refl _)) _ _ hv

theorem next_bar (n : Nat) : ∀ k, n + k = ops.size → ∃ M, n ≤ M ∧ M ≤ ops.size ∧ (∀ j, n ≤ j → j < M → barAt P ops.toList (befs ops.toList []) j = false) ∧ (M = ops.size ∨ barAt P ops.toList (befs ops.toList []) M = true) := by
  intro k
  induction k generalizing n with
  | zero => intro h; exact ⟨n, Nat.le_refl _, by omega, fun j h1 h2 => by omega, .inl (by omega)⟩
  | succ k ih =>
    intro h
    cases hb : barAt P ops.toList (befs ops.toList []) n with
    | true => exact ⟨n, Nat.le_refl _, by omega, fun j h1 h2 => by omega, .inr hb⟩
    | false =>
      obtain ⟨M, m1, m2, m3, m4⟩ := ih (n + 1) (by omega)
      exact ⟨M, by omega, m2, fun j h1 h2 => by
        by_cases hj : j = n
        · rw [hj]; exact hb
        · exact m3 j (by omega) h2, m4⟩

/-- WHICHEVER OPERATION COMES UP, what is known stays known. -/
theorem step_any {listed : Array Bool} (hc : Closed ops.toList listed) {ρ0 : Emb} {w0 : World} {a : Act} {w : World} {ρ : Emb} {s M : Nat} (I : Inv P nt ops Ts Hs ρ0 w0 listed a w ρ s M)
    {i : Nat} {oi : Oper} (hi : ops[i]? = some oi) (hni : ¬ InL listed i) (hr : ∀ e ∈ oi.after.toList, Region.binds .any e = true → InL listed e.on) {listed' : Array Bool} (hl : ∀ j, InL listed' j ↔ (InL listed j ∨ j = i))
    {K : Act → World → Prop} {Q : Exit → Act → World → Prop} (hK : ∀ a' w' ρ' s' M', Inv P nt ops Ts Hs ρ0 w0 listed' a' w' ρ' s' M' → K a' w') : wpOp P ops Q i K a w := by
  have hi' : ops.toList[i]? = some oi := by simpa using hi
  have hiN : i < ops.size := (Array.getElem?_eq_some_iff.1 hi).1
  have hlook := look_ok hd hst hc I hi hni hr
  have S := hst i oi hi
  obtain ⟨v, h2, e1, e2, e3, e4, e5, e6⟩ := S.ex
  have hdf : ∀ x, (a.put oi.dst x).defers = [] := fun x => by cases oi.dst <;> exact I.defers
  have hsz : ∀ x, (a.put oi.dst x).tmps.size = nt := fun x => by cases oi.dst <;> simp [Act.put, I.size]
  cases hs : still P oi.op with
  | true =>
    refine e6 hs (ρ.below (Hs i).next) a w K Q hlook fun x hx => hK _ w ρ s M ?_
    refine ⟨hsz x, hdf x, I.ext, slots_put hd hst hc I hi hni hr hl (Emb.le_refl ρ) (fun q hq => by rw [e1 q hq, S.calm hs]; exact hx), I.sM, I.MN, fun j o hj h1 h2 => (hl j).2 (.inl (I.lo j o hj h1 h2)), fun j o hj h1 h2 h3 => ?_, I.nobar, I.atM, I.dom,
      fun id g L hL j o hj hnj => I.domD id g L hL j o hj fun h => hnj ((hl j).2 (.inl h)), I.heap⟩
    rcases (hl j).1 h3 with h3 | h3
    · exact I.hi j o hj h1 h2 h3
    · subst h3; rw [hi] at hj; cases hj; rw [hs] at h1; cases h1
  | false =>
    have hsi : s ≤ i := Nat.le_of_not_lt fun h => hni (I.lo i oi hi hs h)
    cases hb : barAt P ops.toList (befs ops.toList []) i with
    | true =>
      -- a bar: it is the next one
      have hiM : i = M := by
        rcases Nat.lt_trichotomy i M with h | h | h
        · rw [I.nobar i hsi h] at hb; cases hb
        · exact h
        · rcases I.atM with h' | h'
          · omega
          · have hMl : ops[M]? = some (ops[M]'(by omega)) := Array.getElem?_eq_getElem _
            have hloud := bar_loud h' ((Array.getElem?_toList (xs := ops) (i := M)).trans hMl)
            rcases bar_ok (oj := oi) h' hi' hs (by omega) with hR | hR
            · exact absurd (hR.inL hc fun o ho e he hbb => by rw [hi'] at ho; cases ho; exact hr e he hbb) (I.hi M _ hMl hloud (Nat.le_refl _))
            · have := hR.lt (by simp only [drawsOk, Bool.and_eq_true] at hd; exact hd.1); omega
      subst hiM
      rw [hb] at e2 e4 e5
      simp only [if_true] at e2 e4 e5
      have hup : edgesUp 0 ops.toList = true := by simp only [drawsOk, Bool.and_eq_true] at hd; exact hd.1
      have hbelow : ∀ id g L, ρ id g = some L → ρ.below (Hs i).next id g = some L := fun id g L hL => Emb.below_of hL (I.dom _ _ _ hL)
      refine e5 (ρ.below (Hs i).next) a w w0 K Q hlook (I.heap i hsi (Nat.le_refl _)) fun ρ' x w' hE hx hR => ?_
      obtain ⟨M', m1, m2, m3, m4⟩ := next_bar hd hst (i + 1) (ops.size - (i + 1)) (by omega)
      have hle : ρ.le ρ' := fun id g L hL => hE.1 _ _ _ (hbelow _ _ _ hL)
      rw [← e4] at hR
      refine hK _ w' ρ' (i + 1) M' ⟨hsz x, hdf x, I.ext.trans ⟨hle, fun id g L hL => ?_⟩, slots_put hd hst hc I hi hni hr hl hle (fun q hq => by rw [e1 q hq]; exact VRel.up (fun id g L hL => Emb.below_of hL (hR.ids _ _ _ hL)) _ _ hx), m1, m2, fun j o hj h1 h2 => ?_, fun j o hj h1 h2 h3 => ?_, m3, m4,
        fun id g L hL => Nat.lt_of_lt_of_le (hR.ids _ _ _ hL) (nx_mono hst m1 m2), fun id g L hL j o hj hnj hbd => ?_, fun m h1 h2 => ?_⟩
      · rcases hE.2 _ _ _ hL with h | h
        · exact .inl (Emb.below_some h).1
        · right; rw [← fl_same hst (n := i) (by omega)]; exact h
      · rw [hl]
        by_cases hji : j = i
        · exact .inr hji
        · left
          have hj' : ops.toList[j]? = some o := by simpa using hj
          rcases bar_ok hb hj' h1 (fun e => hji e.symm) with hR' | hR'
          · have := hR'.lt hup; omega
          · exact hR'.inL hc fun o' ho e he hbb => by rw [hi'] at ho; cases ho; exact hr e he hbb
      · have hj' : ops.toList[j]? = some o := by simpa using hj
        rcases (hl j).1 h3 with h3 | h3
        · exact I.hi j o hj h1 (by omega) h3
        · omega
      · by_cases hso : still P o.op = true
        · rw [(hst j o hj).calm hso] at hbd; omega
        · have hso' : still P o.op = false := by simpa using hso
          have hji : i < j := by
            refine Nat.lt_of_not_le fun hle' => hnj ((hl j).2 ?_)
            by_cases hji : j = i
            · exact .inr hji
            · left
              have hj' : ops.toList[j]? = some o := by simpa using hj
              rcases bar_ok hb hj' hso' (fun e => hji e.symm) with hR' | hR'
              · have := hR'.lt hup; omega
              · exact hR'.inL hc fun o' ho e he hbb => by rw [hi'] at ho; cases ho; exact hr e he hbb
          have hjN : j < ops.size := (Array.getElem?_eq_some_iff.1 hj).1
          have := nx_mono hst (m := i + 1) (n := j) (by omega) (by omega)
          have := hR.ids _ _ _ hL
          omega
      · have hmN : m ≤ ops.size := by omega
        have hR2 : HRel ρ' (Hs m) w' w0 := hR.later (fun id g L hL => seg_keep hst m2 m3 (Nat.le_refl _) h1 h2 (hR.ids _ _ _ hL)) (nx_mono hst h1 hmN) ((fl_same hst hmN).trans (fl_same hst (by omega)).symm)
        exact hR2.congr fun id g => by
          cases hL : ρ' id g with
          | none => unfold Emb.below; rw [hL]; split <;> rfl
          | some L => exact Emb.below_of hL (hR2.ids _ _ _ hL)
    | false =>
      -- it reads, and lays new blocks
      have hiM : i < M := by
        refine Nat.lt_of_not_le fun hle => ?_
        rcases I.atM with h' | h'
        · omega
        · have hne : i ≠ M := fun e => by rw [e, h'] at hb; cases hb
          have hMN : M < ops.size := by omega
          have hMl : ops[M]? = some (ops[M]'hMN) := Array.getElem?_eq_getElem _
          have hloud := bar_loud h' ((Array.getElem?_toList (xs := ops) (i := M)).trans hMl)
          rcases bar_ok (oj := oi) h' hi' hs (fun e => hne e.symm) with hR | hR
          · exact absurd (hR.inL hc fun o ho e he hbb => by rw [hi'] at ho; cases ho; exact hr e he hbb) (I.hi M _ hMl hloud (Nat.le_refl _))
          · have := hR.lt (by simp only [drawsOk, Bool.and_eq_true] at hd; exact hd.1); omega
      rw [hb] at e2 e4 e5
      simp only [Bool.false_eq_true, if_false] at e2 e4 e5
      have hRi := I.heap i hsi (Nat.le_of_lt hiM)
      have hnxt : (Hs (i + 1)).next = h2.next := by rw [e4, unFloor_mk]
      have hhp : (Hs (i + 1)).heap = h2.heap := by rw [e4, unFloor_mk]
      have hfl2 : h2.floor = (Hs i).next := by rw [e2.1, reFloor_floor]
      refine e5 (ρ.below (Hs i).next) a w w K Q hlook hRi.refloor fun ρ' x w' hE hx hR => ?_
      rw [reFloor_floor] at hE
      have hids : ∀ id g L, ρ' id g = some L → B.val id < B.val (Hs (i + 1)).next := fun id g L hL => by rw [hnxt]; exact hR.ids _ _ _ hL
      have hle : ρ.le (ρ.or ρ') := fun id g L hL => by unfold Emb.or; rw [hL]; rfl
      have hle' : ρ'.le (ρ.or ρ') := fun id g L hL => by
        unfold Emb.or
        cases hr0 : ρ id g with
        | none => exact hL
        | some L0 =>
          rcases hE.2 _ _ _ hL with h | h
          · have := (Emb.below_some h).1
            rw [hr0] at this; exact this
          · exact absurd ⟨h, hids _ _ _ hL⟩ (I.domD id g L0 hr0 i oi hi hni)
      have hnew : ∀ id g L, ρ.or ρ' id g = some L → ρ id g = some L ∨ (ρ id g = none ∧ ρ' id g = some L ∧ B.val (Hs i).next ≤ B.val id) := fun id g L hL => by
        unfold Emb.or at hL
        cases hr0 : ρ id g with
        | some L0 => rw [hr0] at hL; left; exact hL
        | none =>
          rw [hr0] at hL
          have hL' : ρ' id g = some L := hL
          rcases hE.2 _ _ _ hL' with h | h
          · have := (Emb.below_some h).1
            rw [hr0] at this; cases this
          · exact .inr ⟨rfl, hL', h⟩
      have hup : ρ'.le ((ρ.or ρ').below (Hs (i + 1)).next) := fun id g L hL => Emb.below_of (hle' _ _ _ hL) (hids _ _ _ hL)
      have hMN := I.MN
      refine hK _ w' (ρ.or ρ') s M ⟨hsz x, hdf x, I.ext.trans ⟨hle, fun id g L hL => ?_⟩, slots_put hd hst hc I hi hni hr hl hle (fun q hq => by rw [e1 q hq]; exact VRel.up hup _ _ hx), I.sM, I.MN,
        fun j o hj h1 h2 => (hl j).2 (.inl (I.lo j o hj h1 h2)), fun j o hj h1 h2 h3 => ?_, I.nobar, I.atM, fun id g L hL => ?_, fun id g L hL j o hj hnj hbd => ?_, fun m h1 h2 => ?_⟩
      · rcases hnew _ _ _ hL with h | ⟨_, _, h⟩
        · exact .inl h
        · right
          have := hRi.flo
          rw [fl_same hst (n := i) (by omega)] at this
          omega
      · rcases (hl j).1 h3 with h3 | h3
        · exact I.hi j o hj h1 h2 h3
        · omega
      · rcases hnew _ _ _ hL with h | ⟨_, h, _⟩
        · exact I.dom _ _ _ h
        · exact Nat.lt_of_lt_of_le (hids _ _ _ h) (nx_mono hst (by omega) hMN)
      · rcases hnew _ _ _ hL with h | ⟨_, h, hge⟩
        · exact I.domD id g L h j o hj (fun h' => hnj ((hl j).2 (.inl h'))) hbd
        · have hjN : j < ops.size := (Array.getElem?_eq_some_iff.1 hj).1
          have hlt := hids _ _ _ h
          rcases Nat.lt_trichotomy j i with hji | hji | hji
          · have := nx_mono hst (m := j + 1) (n := i) (by omega) (by omega)
            omega
          · exact hnj ((hl j).2 (.inr hji))
          · have := nx_mono hst (m := i + 1) (n := j) (by omega) (by omega)
            omega
      · by_cases hmi : m ≤ i
        · have hg := (I.heap m h1 h2).grow (w' := w') hR.old hR.siz hR.tp hR.os hR.out
          refine hg.congr fun id g => ?_
          unfold Emb.below
          split
          · rename_i hlt
            unfold Emb.or
            cases hr0 : ρ id g with
            | some L0 => rfl
            | none =>
              cases hr1 : ρ' id g with
              | none => rfl
              | some L =>
                rcases hE.2 _ _ _ hr1 with h | h
                · have := (Emb.below_some h).1
                  rw [hr0] at this; cases this
                · have := nx_mono hst hmi (by omega)
                  omega
          · rfl
        · have hmN : m ≤ ops.size := by omega
          refine HRel.merge (I.heap m h1 h2) hR (Emb.below_mono hle (Nat.le_refl _)) (fun id g L hL => Emb.below_of (hle' _ _ _ hL) (Nat.lt_of_lt_of_le (hids _ _ _ hL) (nx_mono hst (by omega) hmN))) fun id g L hL => ?_
          obtain ⟨hL1, hL2⟩ := Emb.below_some hL
          rcases hnew _ _ _ hL1 with h | ⟨_, h, hge⟩
          · exact .inl (Emb.below_of h hL2)
          · refine .inr ⟨h, by rw [hfl2]; exact hge, hL2, ?_⟩
            rw [← hhp]
            exact seg_keep hst hMN I.nobar (by omega) (by omega) h2 (hids _ _ _ h)

/-! ### The end of the region -/
theorem done_any {listed : Array Bool} {ρ0 : Emb} {w0 : World} {a : Act} {w : World} {ρ : Emb} {s M : Nat} (I : Inv P nt ops Ts Hs ρ0 w0 listed a w ρ s M) (hall : ∀ i, i < ops.size → InL listed i) :
    Ext (Hs 0).floor ρ0 ρ ∧ ARel ρ nt (Ts ops.size) a ∧ HRel ρ (Hs ops.size) w w0 := by
  have hM : M = ops.size := by
    rcases I.atM with h | h
    · exact h
    · by_cases hMN : M < ops.size
      · have hMl : ops[M]? = some (ops[M]'hMN) := Array.getElem?_eq_getElem _
        have hloud := bar_loud h ((Array.getElem?_toList (xs := ops) (i := M)).trans hMl)
        exact absurd (hall M hMN) (I.hi M _ hMl hloud (Nat.le_refl _))
      · have := I.MN; omega
  subst hM
  refine ⟨I.ext, ⟨I.defers, I.size, fun q h5 => ?_⟩, (I.heap _ I.sM (Nat.le_refl _)).congr fun id g => ?_⟩
  · obtain ⟨m, hm, hm0, hw, hv⟩ := I.slots q h5
    have : sGet (slOf q) (Ts ops.size) = sGet (slOf q) (Ts m) := slot_same hst h5 hm (Nat.le_refl _) fun j o hj hdj h1 h2 => by
      have := (hw j o hj hdj).2 (hall j h2)
      omega
    rw [this]; exact VRel.up (Emb.below_le _ _) _ _ hv
  · cases hr0 : ρ id g with
    | none => unfold Emb.below; rw [hr0]; split <;> rfl
    | some L => exact (Emb.below_of hr0 (I.dom _ _ _ hr0)).symm

def left (n : Nat) (listed : Array Bool) : Nat := ((List.range n).filter fun i => !listed.getD i false).length
omit hd hst in
theorem filter_less {α : Type} (p p' : α → Bool) : ∀ (l : List α), (∀ x ∈ l, p' x = true → p x = true) → (∃ x ∈ l, p x = true ∧ p' x = false) → (l.filter p').length < (l.filter p).length
  | [], _, h => by obtain ⟨x, hx, _⟩ := h; cases hx
  | y :: l, h1, h2 => by
    have hle : (l.filter p').length ≤ (l.filter p).length := by
      have hsub : ∀ (l : List α), (∀ x ∈ l, p' x = true → p x = true) → (l.filter p').length ≤ (l.filter p).length := by
        intro l
        induction l with
        | nil => intro _; exact Nat.le_refl _
        | cons z l ih =>
          intro h
          have := ih fun x hx => h x (by simp [hx])
          rw [List.filter_cons, List.filter_cons]
          cases hp' : p' z with
          | true => rw [h z (by simp) hp']; simp; exact this
          | false => cases p z <;> simp <;> omega
      exact hsub l fun x hx => h1 x (by simp [hx])
    rw [List.filter_cons, List.filter_cons]
    obtain ⟨x, hx, hp, hp'⟩ := h2
    rcases List.mem_cons.1 hx with rfl | hx
    · rw [hp, hp']; simp; omega
    · have ih := filter_less p p' l (fun x hx => h1 x (by simp [hx])) ⟨x, hx, hp, hp'⟩
      cases hq' : p' y with
      | true => rw [h1 y (by simp) hq']; simp; exact ih
      | false => cases p y <;> simp <;> omega

theorem any_ok {ρ0 : Emb} {w0 : World} {Q : Exit → Act → World → Prop} (hQ : ∀ ρ a w, Ext (Hs 0).floor ρ0 ρ → ARel ρ nt (Ts ops.size) a → HRel ρ (Hs ops.size) w w0 → Q .normal a w) :
    ∀ (fuel : Nat) (listed : Array Bool) (a : Act) (w : World) (ρ : Emb) (s M : Nat), listed.size = ops.size → left ops.size listed ≤ fuel → Closed ops.toList listed → Inv P nt ops Ts Hs ρ0 w0 listed a w ρ s M →
      wpAny P .any ops Q fuel listed a w := by
  have hup : edgesUp 0 ops.toList = true := by simp only [drawsOk, Bool.and_eq_true] at hd; exact hd.1
  intro fuel
  induction fuel with
  | zero =>
    intro listed a w ρ s M hsz hlf hc I
    have hall : ∀ i, i < ops.size → InL listed i := by
      intro i hi
      have h0 : (List.range ops.size).filter (fun i => !listed.getD i false) = [] := List.eq_nil_of_length_eq_zero (by unfold left at hlf; omega)
      have := List.filter_eq_nil_iff.1 h0 i (List.mem_range.2 hi)
      unfold InL
      simpa using this
    obtain ⟨h1, h2, h3⟩ := done_any hd hst I hall
    refine ⟨?_, hQ ρ a w h1 h2 h3⟩
    rw [List.eq_nil_iff_forall_not_mem]
    intro j hj
    obtain ⟨hj1, o, hj2, _⟩ := mem_ready.1 hj
    have hjN : j < ops.size := (Array.getElem?_eq_some_iff.1 hj2).1
    have := hall j hjN
    unfold InL at this
    have hjl : j < listed.size := by omega
    simp [hjl] at this hj1
    rw [this] at hj1; cases hj1
  | succ fuel ih =>
    intro listed a w ρ s M hsz hlf hc I
    constructor
    · intro hready
      by_cases hall : ∀ i, i < ops.size → InL listed i
      · obtain ⟨h1, h2, h3⟩ := done_any hd hst I hall
        exact hQ ρ a w h1 h2 h3
      · -- the least that has not come up may come up
        exfalso
        have hex : ∃ i, i < ops.size ∧ ¬ InL listed i := by
          refine Classical.byContradiction fun h => hall fun i hi => Classical.byContradiction fun h' => h ⟨i, hi, h'⟩
        have hleast : ∃ i, (i < ops.size ∧ ¬ InL listed i) ∧ ∀ j, j < i → ¬ (j < ops.size ∧ ¬ InL listed j) := by
          obtain ⟨i, hi⟩ := hex
          induction i using Nat.strongRecOn with
          | _ i ihh =>
            by_cases h : ∃ j, j < i ∧ (j < ops.size ∧ ¬ InL listed j)
            · obtain ⟨j, hj, hj'⟩ := h
              exact ihh j hj hj'
            · exact ⟨i, hi, fun j hj h' => h ⟨j, hj, h'⟩⟩
        obtain ⟨i, ⟨hi1, hi2⟩, hi3⟩ := hleast
        have hio : ops[i]? = some (ops[i]'hi1) := Array.getElem?_eq_getElem _
        have : i ∈ Region.ready .any ops listed := by
          rw [mem_ready]
          refine ⟨?_, _, hio, fun e he hb => ?_⟩
          · have hil : i < listed.size := by omega
            unfold InL at hi2
            simp [hil] at hi2 ⊢
            exact hi2
          · have hlt := edgesUp_ok ops.toList 0 hup i _ ((Array.getElem?_toList (xs := ops) (i := i)).trans hio) e (by simpa using he) hb
            have := Classical.byContradiction fun h => hi3 e.on (by omega) ⟨by omega, h⟩
            exact this
        rw [hready] at this; cases this
    · intro i hi
      obtain ⟨hi1, o, hi2, hi3⟩ := mem_ready.1 hi
      have hiN : i < ops.size := (Array.getElem?_eq_some_iff.1 hi2).1
      have hil : i < listed.size := by omega
      have hni : ¬ InL listed i := by
        unfold InL
        simp [hil] at hi1 ⊢
        exact hi1
      have hr : ∀ e ∈ o.after.toList, Region.binds .any e = true → InL listed e.on := fun e he hb => hi3 e (by simpa using he) hb
      have hl : ∀ j, InL (listed.setIfInBounds i true) j ↔ (InL listed j ∨ j = i) := by
        intro j
        unfold InL
        rw [Array.getD_eq_getD_getElem?, Array.getD_eq_getD_getElem?, Array.getElem?_setIfInBounds]
        by_cases hji : i = j
        · subst hji; simp [hil]
        · rw [if_neg hji]
          constructor
          · intro h; exact .inl h
          · rintro (h | h)
            · exact h
            · exact absurd h.symm hji
      refine step_any hd hst hc I hi2 hni hr hl fun a' w' ρ' s' M' I' => ih _ a' w' ρ' s' M' (by simpa using hsz) ?_ ?_ I'
      · have : left ops.size (listed.setIfInBounds i true) < left ops.size listed := by
          unfold left
          refine filter_less _ _ _ (fun x _ hx => ?_) ⟨i, List.mem_range.2 hiN, ?_, ?_⟩
          · have := hl x
            unfold InL at this
            cases hx1 : listed.getD x false with
            | false => rfl
            | true => rw [this.2 (.inl hx1)] at hx; exact hx
          · unfold InL at hni
            simpa using hni
          · have := (hl i).2 (.inr rfl)
            unfold InL at this
            rw [this]; rfl
        omega
      · intro j oj hj hjin e he hb
        rw [hl] at hjin ⊢
        left
        rcases hjin with h | h
        · exact hc j oj hj h e he hb
        · subst h
          have : ops.toList[j]? = some o := (Array.getElem?_toList (xs := ops) (i := j)).trans hi2
          rw [hj] at this; cases this
          exact hr e he hb

theorem keep_all : ∀ {n : Nat}, n ≤ ops.size → KeepF (Hs 0) (Hs n) := by
  intro n
  induction n with
  | zero => intro _; exact KeepF.refl _
  | succ n ih =>
    intro hn
    have hi : ops[n]? = some (ops[n]'(by omega)) := Array.getElem?_eq_getElem _
    refine KeepF.trans (ih (by omega)) (nx_mono hst (Nat.zero_le _) (by omega)) ?_
    obtain ⟨v, h2, e1, e2, e3, e4, _⟩ := (hst n _ hi).ex
    cases hb : barAt P ops.toList (befs ops.toList []) n with
    | true => rw [hb] at e2 e4; simp only [if_true] at e2 e4; rw [e4]; exact e2
    | false => exact ⟨(st_next hst hi).2, fun hf id hid => st_keep hst hi hb (Nat.lt_of_lt_of_le hid hf)⟩
end

/-- A REGION THAT DRAWS ITS ORDER: what the evaluator makes of it, in the text's order, is what the model makes of it, in any. -/
theorem draws_ok {P : Program} (hm : P.follows .mixedOrders = true) {cf : CallF} (hcf : CfOk P cf) {nt : Nat} {ops : Array Oper} (hd : drawsOk ops.toList = true) {t : F} {h : H} {k : F → H → Bool}
    (hk : execDr cf (compOpsWith (barAt P ops.toList (befs ops.toList [])) P nt ops.toList (compOp P) 0 ops.toList) t h k = true) :
    ∃ t' h', (∀ k', execDr cf (compOpsWith (barAt P ops.toList (befs ops.toList [])) P nt ops.toList (compOp P) 0 ops.toList) t h k' = k' t' h') ∧ KeepF h h' ∧ B.val h.next ≤ B.val h'.next ∧
      ∀ ρ a w w0 (id : Nat) (Q : Exit → Act → World → Prop), ARel ρ nt t a → HRel ρ h w w0 → (∀ ρ' a' w', Ext h.floor ρ ρ' → ARel ρ' nt t' a' → HRel ρ' h' w' w0 → Q .normal a' w') → (Code.region id ops true).wp P Q a w := by
  obtain ⟨Ts, Hs, b1, b2, b3, b4⟩ := dr_trace hcf _ ops.toList 0 (by simp) t h k hk
  have hst : ∀ (i : Nat) o, ops[i]? = some o → StepOk P nt ops i o (barAt P ops.toList (befs ops.toList []) i) (Ts i) (Ts (i + 1)) (Hs i) (Hs (i + 1)) := fun i o hi => b4 i o (Nat.zero_le _) hi
  have hlen : 0 + ops.toList.length = ops.size := by simp
  rw [hlen] at b3
  refine ⟨Ts ops.size, Hs ops.size, b3, by rw [← b2]; exact keep_all hd hst (Nat.le_refl _), by rw [← b2]; exact nx_mono hst (Nat.zero_le _) (Nat.le_refl _), fun ρ a w w0 id Q A R hQ => ?_⟩
  refine wp_region_any hm ?_
  have hR1 : HRel ρ h { w with drawn := w.drawn + 1 } w0 := R.dr _
  obtain ⟨M, m1, m2, m3, m4⟩ := next_bar (P := P) (nt := nt) (Ts := Ts) (Hs := Hs) hd hst 0 ops.size (by omega)
  have hno : ∀ j, ¬ InL (Array.replicate ops.size false) j := by
    intro j; unfold InL
    by_cases hj : j < ops.size <;> simp [hj]
  refine any_ok hd hst (ρ0 := ρ) (w0 := w0) (fun ρ' a' w' h1 h2 h3 => hQ ρ' a' w' (by rw [← b2]; exact h1) h2 h3) ops.size _ a _ ρ 0 M (by simp) (by unfold left; exact Nat.le_trans (List.length_filter_le _ _) (by simp)) (fun j o hj hin => absurd hin (hno j)) ?_
  refine ⟨A.size, A.defers, Ext.refl _ _, fun q h5 => ⟨0, Nat.zero_le _, .inl rfl, fun j o hj hdj => ⟨fun h => by omega, fun h => absurd h (hno j)⟩, ?_⟩, Nat.zero_le _, m2, fun j o hj h1 h2 => by omega, fun j o hj h1 h2 => hno j, m3, m4,
    fun i g L hL => ?_, fun i g L hL j o hj hnj hbd => ?_, fun m h1 h2 => ?_⟩
  · rw [b1, b2]
    exact VRel.up (fun i g L hL => Emb.below_of hL (R.ids _ _ _ hL)) _ _ (A.slot q h5)
  · have := R.ids _ _ _ hL
    rw [← b2] at this
    exact Nat.lt_of_lt_of_le this (nx_mono hst (Nat.zero_le _) m2)
  · have := R.ids _ _ _ hL
    rw [← b2] at this
    have hjN : j < ops.size := (Array.getElem?_eq_some_iff.1 hj).1
    have := nx_mono hst (m := 0) (n := j) (Nat.zero_le _) (by omega)
    omega
  · have hmN : m ≤ ops.size := by omega
    rw [← b2] at hR1
    have hR2 : HRel ρ (Hs m) { w with drawn := w.drawn + 1 } w0 := hR1.later (fun i g L hL => seg_keep hst m2 m3 (Nat.le_refl _) h1 h2 (hR1.ids _ _ _ hL)) (nx_mono hst h1 hmN) (fl_same hst hmN)
    exact hR2.congr fun i g => by
      cases hL : ρ i g with
      | none => unfold Emb.below; rw [hL]; split <;> rfl
      | some L => exact Emb.below_of hL (hR2.ids _ _ _ hL)

end Go.Ev
