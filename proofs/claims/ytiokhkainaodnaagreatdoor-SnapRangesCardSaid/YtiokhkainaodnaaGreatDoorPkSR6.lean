/- Texts of ours, without what this claim does not use: EvQc EnQt EnKSnapRanges. No condition. -/
import Derived.Test.YtiokhkainaodnaaGreatDoorPkSR5
import Derived.Test.YtiokhkainaodnaaGreatDoorRows
import Derived.WalkKit
import Derived.ProofKit
import Derived.OpenShut
import Derived.Deep.DeepHandedRow
set_option linter.all false
namespace Go.Ev
open Go
def f8Of {α : Type} (g : Nat → α) : F8 α := ⟨g 0, g 1, g 2, g 3, g 4, g 5, g 6, g 7⟩
def ofFun (f : Nat → V) : F := f8Of fun x => f8Of fun y => f8Of fun z => f (64 * x + 8 * y + z)
theorem get8_of {α : Type} (g : Nat → α) {i : Nat} (h : i < 8) : get8 (s8 i) (f8Of g) = g i := by
  match i, h with
  | 0, _ => rfl | 1, _ => rfl | 2, _ => rfl | 3, _ => rfl | 4, _ => rfl | 5, _ => rfl | 6, _ => rfl | 7, _ => rfl
  | n + 8, h => omega
theorem sGet_of (f : Nat → V) {n : Nat} (h : n < 512) : sGet (slOf n) (ofFun f) = f n := by
  show get8 (s8 (n % 8)) (get8 (s8 (n / 8 % 8)) (get8 (s8 (n / 64)) (ofFun f))) = f n
  unfold ofFun
  rw [get8_of _ (show n / 64 < 8 by omega), get8_of _ (show n / 8 % 8 < 8 by omega), get8_of _ (show n % 8 < 8 by omega)]
  congr 1; omega
noncomputable def valB (ls : List Nat) (t : F) (e : E) (n : Nat) : V := match idxN n ls 0 with
  | some j => (e[j]?).getD .u
  | none => oV (compO (.tmp n)) t
noncomputable def valO (ls : List Nat) (t : F) (e : E) (x : Operand) : V := match x with
  | .tmp n => valB ls t e n
  | x => oV (compO x) t
noncomputable def val (l : Lay) (t : F) (e : E) (n : Nat) : V := valO l.ls t e (tgt l.al (.tmp n))
noncomputable def star (l : Lay) (t : F) (e : E) : F := ofFun (val l t e)
theorem idxN_cons (n m : Nat) (l : List Nat) (i : Nat) : idxN n (m :: l) i = match Nat.beq m n with | true => some i | false => idxN n l (i + 1) := by
  show Bool.rec (motive := fun _ => (Nat → Option Nat) → Nat → Option Nat) _ _ (Nat.beq m n) (idxN n l) i = _
  cases Nat.beq m n <;> rfl
theorem idxN_succ (n : Nat) : ∀ (l : List Nat) (i : Nat), idxN n l (i + 1) = (idxN n l i).map Nat.succ := by
  intro l
  induction l with
  | nil => intro i; rfl
  | cons m l ih =>
    intro i
    rw [idxN_cons, idxN_cons]
    cases Nat.beq m n with
    | true => rfl
    | false => exact ih (i + 1)
theorem idxN_some {n : Nat} : ∀ {l : List Nat} {i j : Nat}, idxN n l i = some j → n ∈ l ∧ j < i + l.length := by
  intro l
  induction l with
  | nil => intro i j h; cases h
  | cons m l ih =>
    intro i j h
    rw [idxN_cons] at h
    cases hb : Nat.beq m n with
    | true =>
      rw [hb] at h
      cases h
      have : m = n := Nat.eq_of_beq_eq_true hb
      exact ⟨by simp [this], by simp⟩
    | false =>
      rw [hb] at h
      obtain ⟨h1, h2⟩ := ih h
      exact ⟨by simp [h1], by simp; omega⟩
theorem lookA_cons (n : Nat) (p : Nat × Operand) (l : Al) : lookA n (p :: l) = match Nat.beq p.1 n with | true => some p.2 | false => lookA n l := by
  obtain ⟨m, y⟩ := p
  show Bool.rec (motive := fun _ => Operand → Option Operand → Option Operand) _ _ (Nat.beq m n) y (lookA n l) = _
  cases Nat.beq m n <;> rfl
theorem lookA_some {n : Nat} {y : Operand} : ∀ {l : Al}, lookA n l = some y → (n, y) ∈ l := by
  intro l
  induction l with
  | nil => intro h; cases h
  | cons p l ih =>
    intro h
    rw [lookA_cons] at h
    cases hb : Nat.beq p.1 n with
    | true =>
      rw [hb] at h
      cases h
      have : p.1 = n := Nat.eq_of_beq_eq_true hb
      obtain ⟨m, y⟩ := p
      cases this
      simp
    | false => rw [hb] at h; simp [ih h]
theorem tgt_tmp (al : Al) (n : Nat) : tgt al (.tmp n) = (lookA n al).getD (.tmp n) := by
  show Option.rec (motive := fun _ => Operand) _ _ (lookA n al) = _
  cases lookA n al <;> rfl
theorem bitN_eq (m n : Nat) : bitN m n = m.testBit n := by
  unfold bitN
  show Nat.beq (m / 2 ^ n % 2) 1 = _
  rw [Nat.testBit_eq_decide_div_mod_eq]
  rcases Nat.mod_two_eq_zero_or_one (m / 2 ^ n) with h | h <;> rw [h] <;> rfl
theorem bitN_lor (a b n : Nat) : bitN (Nat.lor a b) n = (bitN a n || bitN b n) := by
  rw [bitN_eq, bitN_eq, bitN_eq]; exact Nat.testBit_or a b n
theorem bitN_pow (d n : Nat) : bitN (Nat.pow 2 d) n = decide (d = n) := by
  rw [bitN_eq]; exact Nat.testBit_two_pow
theorem bitN_zero (n : Nat) : bitN 0 n = false := by rw [bitN_eq]; exact Nat.zero_testBit n
structure LayOk (dm : Nat) (l : Lay) (e : E) : Prop where
  len : l.ls.length ≤ e.length
  hand : ∀ n ∈ l.ls, bitN dm n = true ∧ bitN l.um n = true ∧ n < 512
  name : ∀ n y, (n, y) ∈ l.al → bitN dm n = true ∧ bitN l.um n = true ∧ n < 512 ∧ ∀ m, y = .tmp m → bitN l.tm m = true
def Clr (dm : Nat) (t : F) : Prop := ∀ n, n < 512 → bitN dm n = true → sGet (slOf n) t = .u
theorem LayOk.zero (dm : Nat) (e : E) : LayOk dm .zero e := ⟨Nat.zero_le _, fun n h => (by cases h), fun n y h => (by cases h)⟩
theorem LayOk.push {dm d : Nat} {l : Lay} {e : E} (v : V) (h : LayOk dm l e) (hd : bitN dm d = true) (h5 : d < 512) : LayOk dm (l.push d) (v :: e) := by
  refine ⟨by simpa [Lay.push] using h.len, fun n hn => ?_, fun n y hy => ?_⟩
  · rcases List.mem_cons.1 hn with rfl | hn
    · exact ⟨hd, by show bitN (Nat.lor _ _) _ = true; rw [bitN_lor, bitN_pow]; simp, h5⟩
    · obtain ⟨a, b, c⟩ := h.hand n hn
      exact ⟨a, by show bitN (Nat.lor _ _) _ = true; rw [bitN_lor, b]; rfl, c⟩
  · obtain ⟨a, b, c, d⟩ := h.name n y hy
    exact ⟨a, by show bitN (Nat.lor _ _) _ = true; rw [bitN_lor, b]; rfl, c, d⟩
theorem LayOk.named {dm d : Nat} {l : Lay} {e : E} (y : Operand) (h : LayOk dm l e) (hd : bitN dm d = true) (h5 : d < 512) : LayOk dm (l.name d y) e := by
  refine ⟨h.len, fun n hn => ?_, fun n z hz => ?_⟩
  · obtain ⟨a, b, c⟩ := h.hand n hn
    exact ⟨a, by show bitN (Nat.lor _ _) _ = true; rw [bitN_lor, b]; rfl, c⟩
  · rcases List.mem_cons.1 hz with hz | hz
    · cases hz
      exact ⟨hd, by show bitN (Nat.lor _ _) _ = true; rw [bitN_lor, bitN_pow]; simp, h5, fun m hm => by
        show bitN (Nat.lor _ _) _ = true; rw [bitN_lor, hm]; show (_ || bitN (Nat.pow 2 m) m) = true; rw [bitN_pow]; simp⟩
    · obtain ⟨a, b, c, d⟩ := h.name n z hz
      exact ⟨a, by show bitN (Nat.lor _ _) _ = true; rw [bitN_lor, b]; rfl, c, fun m hm => by show bitN (Nat.lor _ _) _ = true; rw [bitN_lor, d m hm]; rfl⟩
theorem LayOk.fresh {dm d : Nat} {l : Lay} {e : E} (h : LayOk dm l e) (hu : bitN l.um d = false ∨ bitN dm d = false) : lookA d l.al = none ∧ idxN d l.ls 0 = none := by
  constructor
  · cases hl : lookA d l.al with
    | none => rfl
    | some y =>
      obtain ⟨a, b, _⟩ := h.name _ _ (lookA_some hl)
      rcases hu with hu | hu
      · rw [b] at hu; cases hu
      · rw [a] at hu; cases hu
  · cases hl : idxN d l.ls 0 with
    | none => rfl
    | some j =>
      obtain ⟨a, b, _⟩ := h.hand _ (idxN_some hl).1
      rcases hu with hu | hu
      · rw [b] at hu; cases hu
      · rw [a] at hu; cases hu
/-- what another name or the slot itself stands for is not the slot that is written -/
theorem LayOk.tgt_ne {dm d n m : Nat} {l : Lay} {e : E} (h : LayOk dm l e) (ht : bitN l.tm d = false) (hn : n ≠ d) (hm : tgt l.al (.tmp n) = .tmp m) : m ≠ d := by
  rw [tgt_tmp] at hm
  cases hl : lookA n l.al with
  | none => rw [hl] at hm; cases hm; exact hn
  | some y =>
    rw [hl] at hm
    have := (h.name _ _ (lookA_some hl)).2.2.2 m hm
    intro e; rw [e, ht] at this; cases this
theorem oV_tmp (n : Nat) (t : F) (h : n < 512) : oV (compO (.tmp n)) t = sGet (slOf n) t := by
  show oV (match Nat.ble (n + 1) 512 with | true => .t (slOf n) | false => .c .u) t = _
  rw [show Nat.ble (n + 1) 512 = true from Nat.ble_eq_true_of_le h]; rfl
theorem oV_big (n : Nat) (t : F) (h : ¬ n < 512) : oV (compO (.tmp n)) t = .u := by
  show oV (match Nat.ble (n + 1) 512 with | true => .t (slOf n) | false => .c .u) t = _
  rw [show Nat.ble (n + 1) 512 = false by cases hb : Nat.ble (n + 1) 512 with | false => rfl | true => exact absurd (Nat.le_of_ble_eq_true hb) (by omega)]; rfl
theorem val_push {dm d : Nat} {l : Lay} {t : F} {e : E} (v : V) (h : LayOk dm l e) (hu : bitN l.um d = false) (ht : bitN l.tm d = false) (n : Nat) : val (l.push d) t (v :: e) n = if n = d then v else val l t e n := by
  show valO (d :: l.ls) t (v :: e) (tgt l.al (.tmp n)) = _
  by_cases hn : n = d
  · subst hn
    rw [if_pos rfl, tgt_tmp, (h.fresh (.inl hu)).1]
    show (match idxN n (n :: l.ls) 0 with | some j => ((v :: e)[j]?).getD .u | none => oV (compO (.tmp n)) t) = v
    rw [idxN_cons, show Nat.beq n n = true by simp]
    rfl
  · rw [if_neg hn]
    show valO (d :: l.ls) t (v :: e) (tgt l.al (.tmp n)) = valO l.ls t e (tgt l.al (.tmp n))
    cases hy : tgt l.al (.tmp n) with
    | tmp m =>
      have hm := h.tgt_ne ht hn hy
      show (match idxN m (d :: l.ls) 0 with | some j => ((v :: e)[j]?).getD .u | none => oV (compO (.tmp m)) t) = match idxN m l.ls 0 with | some j => (e[j]?).getD .u | none => oV (compO (.tmp m)) t
      rw [idxN_cons, show Nat.beq d m = false by cases hb : Nat.beq d m with | false => rfl | true => exact absurd (Nat.eq_of_beq_eq_true hb).symm hm]
      simp only []
      rw [idxN_succ]
      cases idxN m l.ls 0 <;> rfl
    | const c => rfl
    | global g => rfl
    | func f => rfl
theorem val_frame {dm d : Nat} {l : Lay} {t t' : F} {e : E} {v : V} (h : LayOk dm l e) (hd : bitN dm d = false) (ht : bitN l.tm d = false) (h5 : d < 512) (hv : sGet (slOf d) t' = v) (ho : ∀ s, s ≠ slOf d → sGet s t' = sGet s t) (n : Nat) :
    val l t' e n = if n = d then v else val l t e n := by
  by_cases hn : n = d
  · subst hn
    rw [if_pos rfl]
    show valO l.ls t' e (tgt l.al (.tmp n)) = v
    rw [tgt_tmp, (h.fresh (.inr hd)).1]
    show (match idxN n l.ls 0 with | some j => (e[j]?).getD .u | none => oV (compO (.tmp n)) t') = v
    rw [(h.fresh (.inr hd)).2, ← hv]
    exact oV_tmp n t' h5
  · rw [if_neg hn]
    show valO l.ls t' e (tgt l.al (.tmp n)) = valO l.ls t e (tgt l.al (.tmp n))
    cases hy : tgt l.al (.tmp n) with
    | tmp m =>
      have hm := h.tgt_ne ht hn hy
      show (match idxN m l.ls 0 with | some j => (e[j]?).getD .u | none => oV (compO (.tmp m)) t') = match idxN m l.ls 0 with | some j => (e[j]?).getD .u | none => oV (compO (.tmp m)) t
      cases idxN m l.ls 0 with
      | some j => rfl
      | none =>
        show oV (compO (.tmp m)) t' = oV (compO (.tmp m)) t
        by_cases hm5 : m < 512
        · rw [oV_tmp m _ hm5, oV_tmp m _ hm5]; exact ho _ fun h => hm (slOf_inj hm5 h5 h)
        · rw [oV_big m _ hm5, oV_big m _ hm5]
    | const c => rfl
    | global g => rfl
    | func f => rfl
theorem val_name {d : Nat} {l : Lay} {t : F} {e : E} (y : Operand) (n : Nat) : val (l.name d y) t e n = if n = d then valO l.ls t e y else val l t e n := by
  show valO l.ls t e (tgt ((d, y) :: l.al) (.tmp n)) = _
  rw [tgt_tmp, lookA_cons]
  by_cases hn : n = d
  · subst hn
    rw [if_pos rfl, show Nat.beq (n, y).1 n = true by simp]; rfl
  · rw [if_neg hn, show Nat.beq (d, y).1 n = false by cases hb : Nat.beq d n with | false => rfl | true => exact absurd (Nat.eq_of_beq_eq_true hb).symm hn]
    show valO l.ls t e ((lookA n l.al).getD (.tmp n)) = _
    rw [← tgt_tmp]; rfl
/-- what an operand is there -/
theorem valO_eq {dm : Nat} {l : Lay} {t : F} {e : E} (h : LayOk dm l e) (x : Operand) : oV (compO x) (star l t e) = valO l.ls t e (tgt l.al x) := by
  cases x with
  | tmp n =>
    by_cases h5 : n < 512
    · rw [oV_tmp n _ h5]; exact sGet_of _ h5
    · rw [oV_big n _ h5, tgt_tmp]
      have h1 : lookA n l.al = none := by
        cases hl : lookA n l.al with
        | none => rfl
        | some y => exact absurd (h.name _ _ (lookA_some hl)).2.2.1 h5
      have h2 : idxN n l.ls 0 = none := by
        cases hl : idxN n l.ls 0 with
        | none => rfl
        | some y => exact absurd (h.hand _ (idxN_some hl).1).2.2 h5
      rw [h1]
      show V.u = match idxN n l.ls 0 with | some j => (e[j]?).getD .u | none => oV (compO (.tmp n)) t
      rw [h2]
      exact (oV_big n t h5).symm
  | const v => rfl
  | global g => rfl
  | func f => rfl
theorem lQ_out : ∀ (j : Nat) (t : F) (e : E) (k : V → Bool), j < e.length → (lQ j).out t e k = k ((e[j]?).getD .u) := by
  intro j
  induction j with
  | zero =>
    intro t e k h
    cases e with
    | nil => exact absurd h (by simp)
    | cons v e => rfl
  | succ j ih =>
    intro t e k h
    show (W.on (lQ j) fun m => ⟨fun t e k => List.rec (motive := fun _ => F → (V → Bool) → Bool) (fun _ _ => false) (fun _ e _ t k => m t e k) e t k⟩).out t e k = _
    rw [W.on_out]
    cases e with
    | nil => exact absurd h (by simp)
    | cons v e =>
      show (lQ j).out t e k = _
      rw [ih t e k (by simpa using h), List.getElem?_cons_succ]
theorem rQ_sees {dm : Nat} {l : Lay} {t : F} {e : E} (h : LayOk dm l e) (x : Operand) : Sees t e (star l t e) (rQ l.ls l.al x) (compO x) := by
  intro k
  rw [valO_eq h]
  show (bQ l.ls (tgt l.al x)).out t e k = _
  cases tgt l.al x with
  | tmp n =>
    show (Option.rec (motive := fun _ => W Gq) (oQ (compO (.tmp n))) lQ (idxN n l.ls 0)).out t e k = k (match idxN n l.ls 0 with | some j => (e[j]?).getD .u | none => oV (compO (.tmp n)) t)
    cases hi : idxN n l.ls 0 with
    | none => exact oQ_out _ t e k
    | some j => exact lQ_out j t e k (by have := (idxN_some hi).2; have := h.len; omega)
  | const v => exact oQ_out (compO (.const v)) t e k
  | global g => exact oQ_out (compO (.global g)) t e k
  | func f => exact oQ_out (compO (.func f)) t e k
theorem rQ_zero (t : F) (e : E) (x : Operand) : Sees t e t (rQ [] [] x) (compO x) := by
  intro k
  cases x with
  | tmp n => exact oQ_out (compO (.tmp n)) t e k
  | const v => exact oQ_out (compO (.const v)) t e k
  | global g => exact oQ_out (compO (.global g)) t e k
  | func f => exact oQ_out (compO (.func f)) t e k
theorem ARel.star_put {ρ : Emb} {nt d : Nat} {l l' : Lay} {t t' : F} {e e' : E} {a : Act} {v : V} {x : Value} (A : ARel ρ nt (star l t e) a) (hv : VRel ρ v x) (hd : d < nt) (h : ∀ n, val l' t' e' n = if n = d then v else val l t e n) :
    ARel ρ nt (star l' t' e') (a.put (some d) x) := by
  refine ⟨A.defers, by simp [Act.put, A.size], fun n hn => ?_⟩
  show VRel ρ (sGet (slOf n) (ofFun (val l' t' e'))) _
  rw [sGet_of _ hn, h n]
  by_cases hnd : n = d
  · subst hnd
    rw [if_pos rfl]
    have : ((a.put (some n) x).tmps.getD n undef) = x := by simp [Act.put, A.size, hd]
    rw [this]; exact hv
  · rw [if_neg hnd]
    have : ((a.put (some d) x).tmps.getD n undef) = a.tmps.getD n undef := by
      simp only [Act.put, Array.getD_eq_getD_getElem?, Array.getElem?_setIfInBounds]
      rw [if_neg (fun e => hnd e.symm)]
    rw [this]
    have := A.slot n hn
    have e2 : sGet (slOf n) (star l t e) = val l t e n := sGet_of _ hn
    rwa [e2] at this
theorem ARel.weak {ρ : Emb} {nt dm : Nat} {l : Lay} {t : F} {e : E} {a : Act} (A : ARel ρ nt (star l t e) a) (h : LayOk dm l e) (hi : Clr dm t) : ARel ρ nt t a := by
  refine ⟨A.defers, A.size, fun n hn => ?_⟩
  cases hb : bitN dm n with
  | true => rw [hi n hn hb]; trivial
  | false =>
    have := A.slot n hn
    have e2 : sGet (slOf n) (star l t e) = val l t e n := sGet_of _ hn
    rw [e2] at this
    have e3 : val l t e n = sGet (slOf n) t := by
      show valO l.ls t e (tgt l.al (.tmp n)) = _
      rw [tgt_tmp, (h.fresh (.inr hb)).1]
      show (match idxN n l.ls 0 with | some j => (e[j]?).getD .u | none => oV (compO (.tmp n)) t) = _
      rw [(h.fresh (.inr hb)).2]
      exact oV_tmp n t hn
    rwa [e3] at this
theorem ARel.of_zero {ρ : Emb} {nt : Nat} {t : F} {e : E} {a : Act} (A : ARel ρ nt t a) : ARel ρ nt (star .zero t e) a := by
  refine ⟨A.defers, A.size, fun n hn => ?_⟩
  have e2 : sGet (slOf n) (star .zero t e) = val .zero t e n := sGet_of _ hn
  rw [e2]
  have e3 : val .zero t e n = sGet (slOf n) t := oV_tmp n t hn
  rw [e3]; exact A.slot n hn
theorem ARel.zero {ρ : Emb} {nt dm : Nat} {l : Lay} {t : F} {e e' : E} {a : Act} (A : ARel ρ nt (star l t e) a) (h : LayOk dm l e) (hi : Clr dm t) : ARel ρ nt (star .zero t e') a := (A.weak h hi).of_zero
/-- what a run of an operation says -/
def RunFact (P : Program) (nt : Nat) (o : Oper) (l : Lay) (t : F) (e : E) (r : Rv) : Prop := ∀ cf, CfOk P cf → ∀ h k, r cf t e h k = true →
  ∃ v h', (∀ k', r cf t e h k' = k' v h') ∧ KeepF h h' ∧ B.val h.next ≤ B.val h'.next ∧
    ∀ ρ a w w0, ARel ρ nt (star l t e) a → ARel ρ nt t a → HRel ρ h w w0 → ∃ nx w1, (execOp a.eval o).run P w = .ok nx w1 ∧ NxOk P nx w1 (Done h.floor ρ w0 v h')
theorem qRun_fact {P : Program} {nt dm : Nat} {o : Oper} {l : Lay} {t : F} {e : E} (hl : LayOk dm l e) : RunFact P nt o l t e (qRun P (rQ l.ls l.al) o.op).out := by
  intro cf hcf h k hk
  unfold qRun at hk ⊢
  cases hq : qOp P (rQ l.ls l.al) o.op with
  | some r =>
    rw [hq] at hk
    have hs : SameR t e (star l t e) r (compOp P o.op) := qOp_same (fun x => rQ_sees hl x) hq
    simp only [] at hk ⊢
    rw [hs] at hk
    obtain ⟨v, h', a1, a2, a3, a4, _⟩ := compOp_ok P o cf hcf (star l t e) h k hk
    exact ⟨v, h', fun k' => by rw [hs, a1], a2, a3, fun ρ a w w0 A _ R => a4 ρ a w w0 (A.ops _) R⟩
  | none =>
    rw [hq] at hk
    simp only [] at hk ⊢
    have e0 : ∀ k', (oldRv (compOp P o.op)).out cf t e h k' = runK (compOp P o.op) cf t h k' := fun k' => by
      cases compOp P o.op; rfl
    rw [e0] at hk
    obtain ⟨v, h', a1, a2, a3, a4, _⟩ := compOp_ok P o cf hcf t h k hk
    exact ⟨v, h', fun k' => by rw [e0, a1], a2, a3, fun ρ a w w0 _ A R => a4 ρ a w w0 (A.ops _) R⟩
/-- a row that draws looks into the frame alone -/
theorem qRun_frame (P : Program) (op : Op) (t : F) (e : E) (cf : CallF) (h : H) (k : V → H → Bool) : (qRun P (rQ [] []) op).out cf t e h k = runK (compOp P op) cf t h k := by
  unfold qRun
  cases hq : qOp P (rQ [] []) op with
  | some r => exact qOp_same (fun x => rQ_zero t e x) hq cf h k
  | none =>
    show (oldRv (compOp P op)).out cf t e h k = _
    cases compOp P op; rfl
noncomputable def goB (hand : Bool) (p : Pq) (r : Rv) (nx : StF) (b : Bool) : StF := match hand with
  | true => gH b r nx
  | false => gF b p r nx
noncomputable def fin (hand : Bool) (p : Pq) (nx : StF) (v : V) (cf : CallF) (t : F) (e : E) (h : H) (k : K) : Bool := match hand with
  | true => nx cf t (v :: e) h k
  | false => p v t fun t => nx cf t e h k
theorem gdQ_eq {nt dm : Nat} {l : Lay} {t : F} {e : E} (hl : LayOk dm l e) (hand : Bool) (p : Pq) (r : Rv) (nx : StF) (ops : List Oper) (gd : Option (Nat × Bool)) (cf : CallF) (h : H) (k : K) :
    (gdQ nt l.ls l.al hand p r nx ops gd).out cf t e h k = guardK (compG nt ops gd) (star l t e) fun b => goB hand p r nx b cf t e h k := by
  cases gd with
  | none => cases hand <;> rfl
  | some jw =>
    obtain ⟨j, w⟩ := jw
    cases hj : ops[j]? with
    | none =>
      have e0 : compG nt ops (some (j, w)) = .bad := by simp only [compG, hj]
      have e1 : gdQ nt l.ls l.al hand p r nx ops (some (j, w)) = badQ := by simp only [gdQ, slG, hj]
      rw [e0, e1]; rfl
    | some oj =>
      obtain ⟨dst, e1, e2, e3, e4, e5⟩ := oj
      cases dst with
      | none =>
        have e0 : compG nt ops (some (j, w)) = .bad := by simp only [compG, hj]
        have e1 : gdQ nt l.ls l.al hand p r nx ops (some (j, w)) = badQ := by simp only [gdQ, slG, hj]
        rw [e0, e1]; rfl
      | some d =>
        cases hb : (Nat.ble (Nat.succ d) nt && Nat.ble (Nat.succ d) 512) with
        | false =>
          have e0 : compG nt ops (some (j, w)) = .bad := by simp only [compG, hj, hb]
          have e1 : gdQ nt l.ls l.al hand p r nx ops (some (j, w)) = badQ := by simp only [gdQ, slG, hj, hb]
          rw [e0, e1]; rfl
        | true =>
          have h5 : d < 512 := by
            simp only [Bool.and_eq_true] at hb
            exact Nat.le_of_ble_eq_true hb.2
          have e0 : compG nt ops (some (j, w)) = .some (slOf d) w := by simp only [compG, hj, hb]
          have e1 : gdQ nt l.ls l.al hand p r nx ops (some (j, w)) = W.on (rQ l.ls l.al (.tmp d)) fun g => goG hand w p r nx g := by simp only [gdQ, slG, hj, hb]
          rw [e0, e1, W.on_out]
          have hs := rQ_sees (t := t) (e := e) hl (.tmp d)
          have : (rQ l.ls l.al (.tmp d)).out t e = fun k => k (sGet (slOf d) (star l t e)) := by
            funext k; rw [hs k, oV_tmp d _ h5]
          cases hand with
          | true =>
            show (rQ l.ls l.al (.tmp d)).out t e (fun v => vG v w fun b => gH b r nx cf t e h k) = vG (sGet (slOf d) (star l t e)) w _
            rw [this]; rfl
          | false =>
            show (rQ l.ls l.al (.tmp d)).out t e (fun v => vG v w fun b => gF b p r nx cf t e h k) = vG (sGet (slOf d) (star l t e)) w _
            rw [this]; rfl
theorem op_v {P : Program} {cf : CallF} (hcf : CfOk P cf) {nt dm : Nat} {ops : Array Oper} {o : Oper} {l : Lay} {t : F} {e : E} {h : H} {hand : Bool} {p : Pq} {nx : StF} {r : Rv} {k : K} (hl : LayOk dm l e) (hr : RunFact P nt o l t e r)
    (hk : (gdQ nt l.ls l.al hand p r nx ops.toList o.guard).out cf t e h k = true) :
    ∃ v h', (∀ k', (gdQ nt l.ls l.al hand p r nx ops.toList o.guard).out cf t e h k' = fin hand p nx v cf t e h' k') ∧ KeepF h h' ∧ B.val h.next ≤ B.val h'.next ∧
      ∀ ρ a w w0 (next : Act → World → Prop) (Q : Exit → Act → World → Prop), ARel ρ nt (star l t e) a → ARel ρ nt t a → HRel ρ h w w0 → (∀ ρ' x w', Ext h.floor ρ ρ' → VRel ρ' v x → HRel ρ' h' w' w0 → next (a.put o.dst x) w') →
        if Region.wanted o (yielded ops a.tmps) then o.wp P a w next Q else next (a.put o.dst undef) w := by
  rw [gdQ_eq hl] at hk
  obtain ⟨b, g1, g2⟩ := guard_ok hk
  rw [g1] at hk
  cases b with
  | false =>
    have e2 : ∀ k', goB hand p r nx false cf t e h k' = fin hand p nx (.tu []) cf t e h k' := fun k' => by cases hand <;> rfl
    refine ⟨.tu [], h, fun k' => by rw [gdQ_eq hl, g1, e2], KeepF.refl h, Nat.le_refl _, fun ρ a w w0 next Q A _ R hn => ?_⟩
    rw [g2 ρ a A.size (fun d _ hd => A.slot d hd)]
    simp only [Bool.false_eq_true, if_false]
    exact hn ρ undef w (Ext.refl _ ρ) ⟨#[], rfl, trivial⟩ R
  | true =>
    have e2 : ∀ k', goB hand p r nx true cf t e h k' = r cf t e h fun v h => fin hand p nx v cf t e h k' := fun k' => by cases hand <;> rfl
    rw [e2] at hk
    obtain ⟨v, h', r1, r2, r3, r4⟩ := hr cf hcf h _ hk
    refine ⟨v, h', fun k' => by rw [gdQ_eq hl, g1, e2, r1], r2, r3, fun ρ a w w0 next Q A At R hn => ?_⟩
    rw [g2 ρ a A.size (fun d _ hd => A.slot d hd)]
    simp only [if_true]
    obtain ⟨nx1, w1, x1, x2⟩ := r4 ρ a w w0 A At R
    unfold Oper.wp
    rw [x1]
    exact x2.upon fun x w' ⟨ρ', y1, y2, y3⟩ => hn ρ' x w' y1 y2 y3
theorem wpOps_step {P : Program} {ops : Array Oper} {o : Oper} {n m : Nat} {a : Act} {w : World} {Q : Exit → Act → World → Prop} (hn : ops[n]? = some o)
    (h : if Region.wanted o (yielded ops a.tmps) then o.wp P a w (wpOps P ops Q (List.range' (n + 1) m)) Q else wpOps P ops Q (List.range' (n + 1) m) (a.put o.dst undef) w) : wpOps P ops Q (List.range' n (m + 1)) a w := by
  rw [List.range'_succ, wpOps_cons]
  unfold wpOp
  simp only [hn]
  split
  · rename_i hw; simp only [hw, if_true] at h; exact .inl h
  · rename_i hw; simp only [hw] at h; exact h
theorem chV_cons (P : Program) (nt dm am : Nat) (all : List Oper) (nx : Lay → W StF) (dst : Option Tmp) (op : Op) (a : TypeId) (b : String) (e : Array Edge) (gd : Option (Nat × Bool)) (r : List Oper) (l : Lay) :
    chV P nt dm am all nx (⟨dst, op, a, b, e, gd⟩ :: r) l = match okDst nt dm l dst with
      | false => badQ
      | true => match nameOf am dst op, gd with
        | some (d, x), none => match bitN dm d with
          | true => chV P nt dm am all nx r (l.name d (tgt l.al x))
          | false => badQ
        | _, gd => match handB dm dst with
          | true => W.on (qRun P (rQ l.ls l.al) op) fun r' => W.on (chV P nt dm am all nx r (pushO dst l)) fun n => gdQ nt l.ls l.al true (fun _ _ _ => false) r' n all gd
          | false => W.on (dQ (dOf nt dst)) fun p => W.on (qRun P (rQ l.ls l.al) op) fun r' => W.on (chV P nt dm am all nx r l) fun n => gdQ nt l.ls l.al false p r' n all gd := by
  have e0 : ∃ ih : Ih, (∀ l, ih ⟨P, nt, dm, am, all, nx⟩ l = chV P nt dm am all nx r l) ∧ chV P nt dm am all nx (⟨dst, op, a, b, e, gd⟩ :: r) l = chS P nt dm am all nx dst op gd ih l := ⟨_, fun _ => rfl, rfl⟩
  obtain ⟨ih, h1, h2⟩ := e0
  have hR : ∀ gd, chR P nt dm am all nx dst op gd ih l = match handB dm dst with
      | true => W.on (qRun P (rQ l.ls l.al) op) fun r' => W.on (chV P nt dm am all nx r (pushO dst l)) fun n => gdQ nt l.ls l.al true (fun _ _ _ => false) r' n all gd
      | false => W.on (dQ (dOf nt dst)) fun p => W.on (qRun P (rQ l.ls l.al) op) fun r' => W.on (chV P nt dm am all nx r l) fun n => gdQ nt l.ls l.al false p r' n all gd := by
    intro gd
    unfold chR
    simp only [← h1]
    cases handB dm dst <;> rfl
  rw [h2]
  unfold chS
  cases okDst nt dm l dst with
  | false => rfl
  | true =>
    show chN P nt dm am all nx dst op gd ih l = _
    unfold chN
    cases nameOf am dst op with
    | none => show chR P nt dm am all nx dst op gd ih l = _; rw [hR]
    | some dx =>
      obtain ⟨d, x⟩ := dx
      cases gd with
      | some g => show chR P nt dm am all nx dst op (some g) ih l = _; rw [hR]
      | none =>
        show chA P nt dm am all nx d x ih l = _
        unfold chA
        simp only [← h1]
        cases bitN dm d <;> rfl
theorem chV_ok {P : Program} {cf : CallF} (hcf : CfOk P cf) {nt dm am : Nat} {ops : Array Oper} {nx : Lay → W StF} : ∀ (r : List Oper) (n : Nat), ops.toList.drop n = r → ∀ (l : Lay) (t : F) (e : E) (h : H) (k : K), LayOk dm l e → Clr dm t →
    (chV P nt dm am ops.toList nx r l).out cf t e h k = true →
    ∃ l' t' e' h', (∀ k', (chV P nt dm am ops.toList nx r l).out cf t e h k' = (nx l').out cf t' e' h' k') ∧ LayOk dm l' e' ∧ Clr dm t' ∧ KeepF h h' ∧ B.val h.next ≤ B.val h'.next ∧
      ∀ ρ a w w0 (Q : Exit → Act → World → Prop), ARel ρ nt (star l t e) a → HRel ρ h w w0 → (∀ ρ' a' w', Ext h.floor ρ ρ' → ARel ρ' nt (star l' t' e') a' → HRel ρ' h' w' w0 → Q .normal a' w') →
        wpOps P ops Q (List.range' n r.length) a w := by
  intro r
  induction r with
  | nil => intro n hd l t e h k hl hi hk; exact ⟨l, t, e, h, fun _ => rfl, hl, hi, KeepF.refl h, Nat.le_refl _, fun ρ a w w0 Q A R hq => hq ρ a w (Ext.refl _ ρ) A R⟩
  | cons o r ih =>
    intro n hd l t e h k hl hi hk
    have hn : ops[n]? = some o := by
      have : ops.toList[n]? = some o := by
        have := congrArg (fun l => l[0]?) hd
        simpa using this
      simpa using this
    have hd' : ops.toList.drop (n + 1) = r := by
      rw [← List.drop_drop, hd]; rfl
    obtain ⟨dst, op, c1, c2, c3, gd⟩ := o
    rw [List.length_cons]
    cases hok : okDst nt dm l dst with
    | false =>
      have e0 : chV P nt dm am ops.toList nx (⟨dst, op, c1, c2, c3, gd⟩ :: r) l = badQ := by simp only [chV_cons, hok]
      rw [e0] at hk; exact Bool.noConfusion hk
    | true =>
      have hdst : ∀ d, dst = some d → d < nt ∧ d < 512 ∧ bitN l.tm d = false ∧ (bitN dm d = true → bitN l.um d = false) := by
        intro d hd
        subst hd
        simp only [okDst, okSl, Bool.and_eq_true, Bool.or_eq_true, Bool.not_eq_true'] at hok
        obtain ⟨⟨b1, b2⟩, b3, b4⟩ := hok
        refine ⟨Nat.le_of_ble_eq_true b1, Nat.le_of_ble_eq_true b2, b3, fun h => ?_⟩
        rcases b4 with b4 | b4
        · rw [h] at b4; cases b4
        · exact b4
      -- an operation that is run
      have hrun : (chV P nt dm am ops.toList nx (⟨dst, op, c1, c2, c3, gd⟩ :: r) l = match handB dm dst with
          | true => W.on (qRun P (rQ l.ls l.al) op) fun r' => W.on (chV P nt dm am ops.toList nx r (pushO dst l)) fun n => gdQ nt l.ls l.al true (fun _ _ _ => false) r' n ops.toList gd
          | false => W.on (dQ (dOf nt dst)) fun p => W.on (qRun P (rQ l.ls l.al) op) fun r' => W.on (chV P nt dm am ops.toList nx r l) fun n => gdQ nt l.ls l.al false p r' n ops.toList gd) →
          ∃ l' t' e' h', (∀ k', (chV P nt dm am ops.toList nx (⟨dst, op, c1, c2, c3, gd⟩ :: r) l).out cf t e h k' = (nx l').out cf t' e' h' k') ∧ LayOk dm l' e' ∧ Clr dm t' ∧ KeepF h h' ∧ B.val h.next ≤ B.val h'.next ∧
            ∀ ρ a w w0 (Q : Exit → Act → World → Prop), ARel ρ nt (star l t e) a → HRel ρ h w w0 → (∀ ρ' a' w', Ext h.floor ρ ρ' → ARel ρ' nt (star l' t' e') a' → HRel ρ' h' w' w0 → Q .normal a' w') →
              wpOps P ops Q (List.range' n (r.length + 1)) a w := by
        intro e0
        have hf : RunFact P nt ⟨dst, op, c1, c2, c3, gd⟩ l t e (qRun P (rQ l.ls l.al) op).out := qRun_fact hl
        cases hh : handB dm dst with
        | true =>
          cases dst with
          | none => cases hh
          | some d =>
          obtain ⟨d1, d2, d3, d4⟩ := hdst d rfl
          have hb : bitN dm d = true := hh
          rw [hh] at e0
          have e1 : ∀ k', (chV P nt dm am ops.toList nx (⟨some d, op, c1, c2, c3, gd⟩ :: r) l).out cf t e h k' = (gdQ nt l.ls l.al true (fun _ _ _ => false) (qRun P (rQ l.ls l.al) op).out (chV P nt dm am ops.toList nx r (l.push d)).out ops.toList gd).out cf t e h k' := fun k' => by
            rw [e0]; simp only []; rw [W.on_out, W.on_out]; rfl
          rw [e1] at hk
          obtain ⟨v, h1, a1, a2, a3, a4⟩ := op_v (o := ⟨some d, op, c1, c2, c3, gd⟩) hcf hl hf hk
          have a1' := a1 k
          have hk2 : (chV P nt dm am ops.toList nx r (l.push d)).out cf t (v :: e) h1 k = true := by rw [a1'] at hk; exact hk
          obtain ⟨l', t', e', h', b1, b2, b3, b4, b5, b6⟩ := ih (n + 1) hd' (l.push d) t (v :: e) h1 k (hl.push v hb d2) hi hk2
          refine ⟨l', t', e', h', fun k' => by rw [e1, a1]; exact b1 k', b2, b3, KeepF.trans a2 a3 b4, Nat.le_trans a3 b5, fun ρ a w w0 Q A R hq => ?_⟩
          refine wpOps_step hn (a4 ρ a w w0 _ Q A (A.weak hl hi) R fun ρ' x w' l1 hv R' => ?_)
          refine b6 ρ' _ w' w0 Q (ARel.star_put (A.up l1.1) hv d1 (fun m => val_push v hl (d4 hb) d3 m)) R' fun ρ'' a'' w'' l2 A'' R'' => hq ρ'' a'' w'' (l1.trans (by rw [← a2.1]; exact l2)) A'' R''
        | false =>
          rw [hh] at e0
          have e1 : ∀ k', (chV P nt dm am ops.toList nx (⟨dst, op, c1, c2, c3, gd⟩ :: r) l).out cf t e h k' = (gdQ nt l.ls l.al false (dQ (dOf nt dst)).out (qRun P (rQ l.ls l.al) op).out (chV P nt dm am ops.toList nx r l).out ops.toList gd).out cf t e h k' := fun k' => by
            rw [e0]; simp only []; rw [W.on_out, W.on_out, W.on_out]
          rw [e1] at hk
          obtain ⟨v, h1, a1, a2, a3, a4⟩ := op_v (o := ⟨dst, op, c1, c2, c3, gd⟩) hcf hl hf hk
          have a1' := a1 k
          have hk2 : ((dQ (dOf nt dst)).out v t fun t => (chV P nt dm am ops.toList nx r l).out cf t e h1 k) = true := by rw [a1'] at hk; exact hk
          obtain ⟨t1, p1, p2, p3⟩ : ∃ t1, (∀ K, (dQ (dOf nt dst)).out v t K = K t1) ∧ Clr dm t1 ∧ ∀ ρ a x, ARel ρ nt (star l t e) a → VRel ρ v x → ARel ρ nt (star l t1 e) (a.put dst x) := by
            cases dst with
            | none => exact ⟨t, fun K => dQ_out _ v t K, hi, fun ρ a x A _ => A⟩
            | some d =>
              obtain ⟨d1, d2, d3, d4⟩ := hdst d rfl
              have hb : bitN dm d = false := hh
              obtain ⟨t1, s1, s2, s3⟩ := sPut_ok (slOf d) v t
              have ed : dOf nt (some d) = .some (slOf d) := by
                show (match Nat.ble (Nat.succ d) nt && Nat.ble (Nat.succ d) 512 with | true => D.some (slOf d) | false => .bad) = _
                rw [show Nat.ble (Nat.succ d) nt = true from Nat.ble_eq_true_of_le d1, show Nat.ble (Nat.succ d) 512 = true from Nat.ble_eq_true_of_le d2]; rfl
              refine ⟨t1, fun K => by rw [dQ_out, ed]; exact s1 K, fun m hm hmb => ?_, fun ρ a x A hv => A.star_put hv d1 fun m => val_frame hl hb d3 d2 s2 s3 m⟩
              rw [s3 _ (fun h => by have := slOf_inj hm d2 h; rw [this, hb] at hmb; cases hmb)]
              exact hi m hm hmb
          rw [p1] at hk2
          obtain ⟨l', t', e', h', b1, b2, b3, b4, b5, b6⟩ := ih (n + 1) hd' l t1 e h1 k hl p2 hk2
          refine ⟨l', t', e', h', fun k' => by rw [e1, a1]; show (dQ (dOf nt dst)).out v t _ = _; rw [p1]; exact b1 k', b2, b3, KeepF.trans a2 a3 b4, Nat.le_trans a3 b5, fun ρ a w w0 Q A R hq => ?_⟩
          refine wpOps_step hn (a4 ρ a w w0 _ Q A (A.weak hl hi) R fun ρ' x w' l1 hv R' => ?_)
          exact b6 ρ' _ w' w0 Q (p3 ρ' a x (A.up l1.1) hv) R' fun ρ'' a'' w'' l2 A'' R'' => hq ρ'' a'' w'' (l1.trans (by rw [← a2.1]; exact l2)) A'' R''
      cases hnm : nameOf am dst op with
      | none => exact hrun (by simp only [chV_cons, hok, hnm])
      | some dx =>
        obtain ⟨d, x⟩ := dx
        cases gd with
        | some g => exact hrun (by simp only [chV_cons, hok, hnm])
        | none =>
          cases hb : bitN dm d with
          | false =>
            have e0 : chV P nt dm am ops.toList nx (⟨dst, op, c1, c2, c3, none⟩ :: r) l = badQ := by simp only [chV_cons, hok, hnm, hb]
            rw [e0] at hk; exact Bool.noConfusion hk
          | true =>
            have e0 : chV P nt dm am ops.toList nx (⟨dst, op, c1, c2, c3, none⟩ :: r) l = chV P nt dm am ops.toList nx r (l.name d (tgt l.al x)) := by simp only [chV_cons, hok, hnm, hb]
            obtain ⟨hds, hop⟩ : dst = some d ∧ (op = .move x ∨ op = .assign x) := by
              unfold nameOf at hnm
              split at hnm
              · split at hnm
                · cases hnm; exact ⟨rfl, .inl rfl⟩
                · cases hnm
              · split at hnm
                · cases hnm; exact ⟨rfl, .inr rfl⟩
                · cases hnm
              · cases hnm
            subst hds
            obtain ⟨d1, d2, d3, d4⟩ := hdst d rfl
            rw [e0] at hk
            obtain ⟨l', t', e', h', b1, b2, b3, b4, b5, b6⟩ := ih (n + 1) hd' (l.name d (tgt l.al x)) t e h k (hl.named _ hb d2) hi hk
            refine ⟨l', t', e', h', fun k' => by rw [e0, b1], b2, b3, b4, b5, fun ρ a w w0 Q A R hq => ?_⟩
            have hm : ∃ v h1, (∀ k', runK (compOp P op) (fun _ _ _ _ => false) (star l t e) h k' = k' v h1) ∧ v = valO l.ls t e (tgt l.al x) ∧ h1 = h := by
              refine ⟨valO l.ls t e (tgt l.al x), h, fun k' => ?_, rfl, rfl⟩
              have : runK (compOp P op) (fun _ _ _ _ => false) (star l t e) h k' = oK (compO x) (star l t e) fun v => k' v h := by rcases hop with rfl | rfl <;> rfl
              rw [this, oK_eq, valO_eq hl]
            obtain ⟨v, h1, m1, rfl, rfl⟩ := hm
            obtain ⟨v', h1', a1, a2, a3, a4, _⟩ := compOp_ok P ⟨some d, op, c1, c2, c3, none⟩ (fun _ _ _ _ => false) (fun _ _ _ _ hk => Bool.noConfusion hk) (star l t e) h1 (fun _ _ => true) (m1 _)
            have hvh : v' = valO l.ls t e (tgt l.al x) ∧ h1' = h1 := by
              have := a1 fun y g => @decide (y = valO l.ls t e (tgt l.al x) ∧ g = h1) (Classical.propDecidable _)
              rw [m1] at this
              have := this.symm.trans (@decide_eq_true _ (Classical.propDecidable _) ⟨rfl, rfl⟩)
              exact @of_decide_eq_true _ (Classical.propDecidable _) this
            obtain ⟨rfl, rfl⟩ := hvh
            refine wpOps_step hn ?_
            have hw : Region.wanted (⟨some d, op, c1, c2, c3, none⟩ : Oper) (yielded ops a.tmps) = true := rfl
            rw [hw]
            simp only [if_true]
            obtain ⟨nx1, w1, x1, x2⟩ := a4 ρ a w w0 (A.ops _) R
            unfold Oper.wp
            rw [x1]
            refine x2.upon fun y w' ⟨ρ', y1, y2, y3⟩ => ?_
            exact b6 ρ' _ w' w0 Q (ARel.star_put (A.up y1.1) y2 d1 fun m => val_name _ m) y3 fun ρ'' a'' w'' l2 A'' R'' => hq ρ'' a'' w'' (y1.trans l2) A'' R''
theorem put_fr {nt : Nat} {dst : Option Tmp} {v : V} {t : F} {k : F → Bool} (hk : putD (dOf nt dst) v t k = true) : ∃ t', (∀ k', putD (dOf nt dst) v t k' = k' t') ∧ ∀ m, m < 512 → dst ≠ some m → sGet (slOf m) t' = sGet (slOf m) t := by
  cases dst with
  | none => exact ⟨t, fun _ => rfl, fun _ _ _ => rfl⟩
  | some d =>
    have e : dOf nt (some d) = match Nat.ble (Nat.succ d) nt && Nat.ble (Nat.succ d) 512 with | true => .some (slOf d) | false => .bad := rfl
    rw [e] at hk ⊢
    cases hb : (Nat.ble (Nat.succ d) nt && Nat.ble (Nat.succ d) 512) with
    | false => rw [hb] at hk; exact Bool.noConfusion hk
    | true =>
      obtain ⟨t', h1, h2, h3⟩ := sPut_ok (slOf d) v t
      simp only [Bool.and_eq_true] at hb
      have h5 : d < 512 := Nat.le_of_ble_eq_true hb.2
      exact ⟨t', fun k' => h1 k', fun m hm hd => h3 _ fun e => hd (by rw [slOf_inj hm h5 e])⟩
theorem opK_fr {P : Program} {cf : CallF} (hcf : CfOk P cf) {nt : Nat} {ops : Array Oper} {o : Oper} {bar : Bool} {t : F} {h : H} {ih : F → H → (F → H → Bool) → Bool} {k : F → H → Bool}
    (hk : opK ⟨compG nt ops.toList o.guard, dOf nt o.dst, bar, compOp P o.op⟩ cf ih t h k = true) :
    ∃ t' h', (∀ ih' k', opK ⟨compG nt ops.toList o.guard, dOf nt o.dst, bar, compOp P o.op⟩ cf ih' t h k' = ih' t' h' k') ∧ ∀ m, m < 512 → o.dst ≠ some m → sGet (slOf m) t' = sGet (slOf m) t := by
  have e : ∀ ih' k', opK ⟨compG nt ops.toList o.guard, dOf nt o.dst, bar, compOp P o.op⟩ cf ih' t h k' = guardK (compG nt ops.toList o.guard) t fun b => opGo b (compOp P o.op) (dOf nt o.dst) cf ih' t h k' := fun _ _ => rfl
  rw [e] at hk
  obtain ⟨b, g1, _⟩ := guard_ok hk
  rw [g1] at hk
  cases b with
  | false =>
    have e2 : ∀ ih' k', opGo false (compOp P o.op) (dOf nt o.dst) cf ih' t h k' = putD (dOf nt o.dst) (.tu []) t fun t => ih' t h k' := fun _ _ => rfl
    rw [e2] at hk
    obtain ⟨t', p1, p2⟩ := put_fr hk
    exact ⟨t', h, fun ih' k' => by rw [e, g1, e2, p1], p2⟩
  | true =>
    have e2 : ∀ ih' k', opGo true (compOp P o.op) (dOf nt o.dst) cf ih' t h k' = runK (compOp P o.op) cf t h (fun v h => putD (dOf nt o.dst) v t fun t => ih' t h k') := fun _ _ => rfl
    rw [e2] at hk
    obtain ⟨v, h', r1, _⟩ := compOp_ok P o cf hcf t h _ hk
    rw [r1] at hk
    obtain ⟨t', p1, p2⟩ := put_fr hk
    exact ⟨t', h', fun ih' k' => by rw [e, g1, e2, r1, p1], p2⟩
theorem drK_fr {P : Program} {cf : CallF} (hcf : CfOk P cf) {nt : Nat} {ops : Array Oper} {o : Oper} {bar : Bool} {t : F} {h : H} {ih : F → H → (F → H → Bool) → Bool} {k : F → H → Bool}
    (hk : drK ⟨compG nt ops.toList o.guard, dOf nt o.dst, bar, compOp P o.op⟩ cf ih t h k = true) :
    ∃ t' h', (∀ ih' k', drK ⟨compG nt ops.toList o.guard, dOf nt o.dst, bar, compOp P o.op⟩ cf ih' t h k' = ih' t' h' k') ∧ ∀ m, m < 512 → o.dst ≠ some m → sGet (slOf m) t' = sGet (slOf m) t := by
  cases bar with
  | true =>
    have e : ∀ ih' k', drK ⟨compG nt ops.toList o.guard, dOf nt o.dst, true, compOp P o.op⟩ cf ih' t h k' = opK ⟨compG nt ops.toList o.guard, dOf nt o.dst, true, compOp P o.op⟩ cf ih' t h k' := fun ih' k' => by
      show guardK _ t (fun b => drGo b true (compOp P o.op) (dOf nt o.dst) cf ih' t h k') = guardK _ t fun b => opGo b (compOp P o.op) (dOf nt o.dst) cf ih' t h k'
      congr 1; funext b; cases b <;> rfl
    rw [e] at hk
    obtain ⟨t', h', a1, a2⟩ := opK_fr hcf hk
    exact ⟨t', h', fun ih' k' => by rw [e, a1], a2⟩
  | false =>
    have e : ∀ ih' k', drK ⟨compG nt ops.toList o.guard, dOf nt o.dst, false, compOp P o.op⟩ cf ih' t h k' = guardK (compG nt ops.toList o.guard) t fun b => drGo b false (compOp P o.op) (dOf nt o.dst) cf ih' t h k' := fun _ _ => rfl
    rw [e] at hk
    obtain ⟨b, g1, _⟩ := guard_ok hk
    rw [g1] at hk
    cases b with
    | false =>
      have e2 : ∀ ih' k', drGo false false (compOp P o.op) (dOf nt o.dst) cf ih' t h k' = putD (dOf nt o.dst) (.tu []) t fun t => ih' t h k' := fun _ _ => rfl
      rw [e2] at hk
      obtain ⟨t', p1, p2⟩ := put_fr hk
      exact ⟨t', h, fun ih' k' => by rw [e, g1, e2, p1], p2⟩
    | true =>
      have e2 : ∀ ih' k', drGo true false (compOp P o.op) (dOf nt o.dst) cf ih' t h k' = runK (compOp P o.op) cf t (reFloor h) (fun v h' => putD (dOf nt o.dst) v t fun t => ih' t (unFloor h h') k') := fun _ _ => rfl
      rw [e2] at hk
      obtain ⟨v, h', r1, _⟩ := compOp_ok P o cf hcf t (reFloor h) _ hk
      rw [r1] at hk
      obtain ⟨t', p1, p2⟩ := put_fr hk
      exact ⟨t', unFloor h h', fun ih' k' => by rw [e, g1, e2, r1, p1], p2⟩
theorem dr_fr {P : Program} {cf : CallF} (hcf : CfOk P cf) {nt : Nat} {ops : Array Oper} (bars : Nat → Bool) : ∀ (l : List Oper) (n : Nat) (t : F) (h : H) (k : F → H → Bool), execDr cf (compOpsWith bars P nt ops.toList (compOp P) n l) t h k = true →
    ∃ t' h', (∀ k', execDr cf (compOpsWith bars P nt ops.toList (compOp P) n l) t h k' = k' t' h') ∧ ∀ m, m < 512 → (∀ o ∈ l, o.dst ≠ some m) → sGet (slOf m) t' = sGet (slOf m) t := by
  intro l
  induction l with
  | nil => intro n t h k _; exact ⟨t, h, fun _ => rfl, fun _ _ _ => rfl⟩
  | cons o l ih =>
    intro n t h k hk
    have e : ∀ k', execDr cf (compOpsWith bars P nt ops.toList (compOp P) n (o :: l)) t h k' = drK ⟨compG nt ops.toList o.guard, dOf nt o.dst, bars n, compOp P o.op⟩ cf (execDr cf (compOpsWith bars P nt ops.toList (compOp P) (n + 1) l)) t h k' := fun _ => rfl
    rw [e] at hk
    obtain ⟨t1, h1, a1, a2⟩ := drK_fr hcf hk
    rw [a1] at hk
    obtain ⟨t2, h2, b1, b2⟩ := ih (n + 1) t1 h1 k hk
    exact ⟨t2, h2, fun k' => by rw [e, a1, b1], fun m hm hd => by rw [b2 m hm fun o ho => hd o (by simp [ho]), a2 m hm (hd o (by simp))]⟩
theorem ch_fr {P : Program} {cf : CallF} (hcf : CfOk P cf) {nt : Nat} {ops : Array Oper} (bars : Nat → Bool) : ∀ (l : List Oper) (n : Nat) (t : F) (h : H) (k : List (F × H) → F → H → Bool), chRun cf (compOpsWith bars P nt ops.toList (compOp P) n l) t h k = true →
    ∃ x t' h', (∀ k', chRun cf (compOpsWith bars P nt ops.toList (compOp P) n l) t h k' = k' x t' h') ∧ ∀ m, m < 512 → (∀ o ∈ l, o.dst ≠ some m) → sGet (slOf m) t' = sGet (slOf m) t := by
  intro l
  induction l with
  | nil => intro n t h k _; exact ⟨[], t, h, fun _ => rfl, fun _ _ _ => rfl⟩
  | cons o l ih =>
    intro n t h k hk
    have e : ∀ k', chRun cf (compOpsWith bars P nt ops.toList (compOp P) n (o :: l)) t h k' = opK ⟨compG nt ops.toList o.guard, dOf nt o.dst, bars n, compOp P o.op⟩ cf (fun t1 h1 _ => chRun cf (compOpsWith bars P nt ops.toList (compOp P) (n + 1) l) t1 h1 fun l t2 h2 => k' ((t1, h1) :: l) t2 h2) t h fun _ _ => true := fun _ => rfl
    rw [e] at hk
    obtain ⟨t1, h1, a1, a2⟩ := opK_fr hcf hk
    rw [a1] at hk
    obtain ⟨x, t2, h2, b1, b2⟩ := ih (n + 1) t1 h1 _ hk
    exact ⟨(t1, h1) :: x, t2, h2, fun k' => by rw [e, a1, b1], fun m hm hd => by rw [b2 m hm fun o ho => hd o (by simp [ho]), a2 m hm (hd o (by simp))]⟩
theorem stQ_eq (g : G) (r : Rv) (p : Pq) (nx : StF) (cf : CallF) (t : F) (e : E) (h : H) (k : K) : (stQ g r p nx).out cf t e h k = guardK g t fun b => sxG b r p nx cf t h k := by
  cases g with
  | none => rfl
  | some s w =>
    show (W.on (gq s) fun g => ⟨fun cf t _ h k => g t [] fun v => vG v w fun b => sxG b r p nx cf t h k⟩).out cf t e h k = _
    rw [W.on_out, W.mk_out, gq_out]; rfl
  | bad => rfl
theorem dtQ_eq (g : G) (r : Rv) (p : Pq) (nx : StF) (cf : CallF) (t : F) (e : E) (h : H) (k : K) : (dtQ g r p nx).out cf t e h k = guardK g t fun b => dxG b r p nx cf t h k := by
  cases g with
  | none => rfl
  | some s w =>
    show (W.on (gq s) fun g => ⟨fun cf t _ h k => g t [] fun v => vG v w fun b => dxG b r p nx cf t h k⟩).out cf t e h k = _
    rw [W.on_out, W.mk_out, gq_out]; rfl
  | bad => rfl
theorem drQ_cons (bars : Nat → Bool) (P : Program) (nt : Nat) (all : List Oper) (nx : W StF) (n : Nat) (o : Oper) (l : List Oper) (cf : CallF) (t : F) (e : E) (h : H) (k : K) : (drQ bars P nt all nx n (o :: l)).out cf t e h k =
    (match bars n with | true => stQ (compG nt all o.guard) (qRun P (rQ [] []) o.op).out (dQ (dOf nt o.dst)).out (drQ bars P nt all nx (n + 1) l).out | false => dtQ (compG nt all o.guard) (qRun P (rQ [] []) o.op).out (dQ (dOf nt o.dst)).out (drQ bars P nt all nx (n + 1) l).out).out cf t e h k := by
  show (W.on (dQ (dOf nt o.dst)) fun p => W.on (drQ bars P nt all nx (n + 1) l) fun nx => W.on (qRun P (rQ [] []) o.op) fun r' => match bars n with | true => stQ (compG nt all o.guard) r' p nx | false => dtQ (compG nt all o.guard) r' p nx).out cf t e h k = _
  rw [W.on_out, W.on_out, W.on_out]
theorem drQ_any (bars : Nat → Bool) (P : Program) (nt : Nat) (all : List Oper) (nx : W StF) (n : Nat) (o : Oper) (l : List Oper) (cf : CallF) (t : F) (e : E) (h : H) (k : K) : (drQ bars P nt all nx n (o :: l)).out cf t e h k = (drQ bars P nt all nx n (o :: l)).out cf t [] h k := by
  rw [drQ_cons, drQ_cons]
  cases bars n with
  | true => show (stQ _ _ _ _).out cf t e h k = (stQ _ _ _ _).out cf t [] h k; rw [stQ_eq, stQ_eq]
  | false => show (dtQ _ _ _ _).out cf t e h k = (dtQ _ _ _ _).out cf t [] h k; rw [dtQ_eq, dtQ_eq]
theorem drQ_eq (bars : Nat → Bool) (P : Program) (nt : Nat) (all : List Oper) (nx : W StF) (cf : CallF) (k : K) : ∀ (l : List Oper) (n : Nat) (t : F) (h : H),
    (drQ bars P nt all nx n l).out cf t [] h k = execDr cf (compOpsWith bars P nt all (compOp P) n l) t h fun t h => nx.out cf t [] h k := by
  intro l
  induction l with
  | nil => intro n t h; rfl
  | cons o l ih =>
    intro n t h
    show _ = guardK (compG nt all o.guard) t fun b => drGo b (bars n) (compOp P o.op) (dOf nt o.dst) cf (execDr cf (compOpsWith bars P nt all (compOp P) (n + 1) l)) t h fun t h => nx.out cf t [] h k
    rw [drQ_cons]
    cases bars n with
    | true =>
      show (stQ _ _ _ _).out cf t [] h k = _
      rw [stQ_eq]
      congr 1; funext b
      cases b with
      | false =>
        show (dQ (dOf nt o.dst)).out (.tu []) t (fun t => (drQ bars P nt all nx (n + 1) l).out cf t [] h k) = putD (dOf nt o.dst) (.tu []) t fun t => execDr cf (compOpsWith bars P nt all (compOp P) (n + 1) l) t h fun t h => nx.out cf t [] h k
        rw [dQ_out]; congr 1; funext t; exact ih (n + 1) t h
      | true =>
        show ((qRun P (rQ [] []) o.op).out cf t [] h fun v h' => (dQ (dOf nt o.dst)).out v t fun t => (drQ bars P nt all nx (n + 1) l).out cf t [] h' k) = runK (compOp P o.op) cf t h fun v h => putD (dOf nt o.dst) v t fun t => execDr cf (compOpsWith bars P nt all (compOp P) (n + 1) l) t h fun t h => nx.out cf t [] h k
        rw [qRun_frame]; congr 1; funext v h; rw [dQ_out]; congr 1; funext t; exact ih (n + 1) t h
    | false =>
      show (dtQ _ _ _ _).out cf t [] h k = _
      rw [dtQ_eq]
      congr 1; funext b
      cases b with
      | false =>
        show (dQ (dOf nt o.dst)).out (.tu []) t (fun t => (drQ bars P nt all nx (n + 1) l).out cf t [] h k) = putD (dOf nt o.dst) (.tu []) t fun t => execDr cf (compOpsWith bars P nt all (compOp P) (n + 1) l) t h fun t h => nx.out cf t [] h k
        rw [dQ_out]; congr 1; funext t; exact ih (n + 1) t h
      | true =>
        show ((qRun P (rQ [] []) o.op).out cf t [] (reFloor h) fun v h' => (dQ (dOf nt o.dst)).out v t fun t => (drQ bars P nt all nx (n + 1) l).out cf t [] (unFloor h h') k) = runK (compOp P o.op) cf t (reFloor h) fun v h' => putD (dOf nt o.dst) v t fun t => execDr cf (compOpsWith bars P nt all (compOp P) (n + 1) l) t (unFloor h h') fun t h => nx.out cf t [] h k
        rw [qRun_frame]; congr 1; funext v h'; rw [dQ_out]; congr 1; funext t; exact ih (n + 1) t _
theorem natR_eq {R : Type} (n : Nat) (k : Nat → R) : natR n k = k n := by cases n <;> rfl
theorem boolR_eq {R : Type} (b : Bool) (k : Bool → R) : boolR b k = k b := by cases b <;> rfl
theorem snR_eq {R : Type} : ∀ (l : List Nat) (b : Nat) (k : List Nat → R), snR l b k = k (l ++ [b]) := by
  intro l
  induction l with
  | nil => intro b k; rfl
  | cons x l ih => intro b k; exact ih b _
theorem befQ_eq (done : List Nat) : ∀ (es : List Edge) (acc : Nat), befQ done es acc = befOf done es acc := by
  intro es
  induction es with
  | nil => intro acc; rfl
  | cons e es ih =>
    intro acc
    show Bool.rec (motive := fun _ => Nat) (befQ done es acc) (befQ done es (Nat.lor (Nat.lor acc (Nat.pow 2 e.on)) ((lgQ done e.on).getD 0))) (Region.binds .any e) = match Region.binds .any e with
      | true => befOf done es (Nat.lor (Nat.lor acc (Nat.pow 2 e.on)) ((done[e.on]?).getD 0))
      | false => befOf done es acc
    cases Region.binds .any e with
    | true => show befQ done es _ = befOf done es _; rw [ih, lg_eq]
    | false => exact ih acc
theorem befsR_eq {R : Type} : ∀ (ops : List Oper) (done : List Nat) (k : List Nat → R), befsR ops done k = k (befs ops done) := by
  intro ops
  induction ops with
  | nil => intro done k; rfl
  | cons o ops ih =>
    intro done k
    show natR (befQ done o.after.toList 0) (fun b => snR done b fun done => befsR ops done k) = k (befs ops (done ++ [befOf done o.after.toList 0]))
    rw [natR_eq, snR_eq, ih, befQ_eq]
noncomputable def rwOf (P : Program) (all : List Oper) (bs : List Nat) (p : Oper × Nat) : Rw := ⟨p.2, (bs[p.2]?).getD 0, mOf (dstL p.1), mOf (looks all p.1), still P p.1.op⟩
theorem rowsR_eq {R : Type} (P : Program) (all : List Oper) (bs : List Nat) : ∀ (ops : List Oper) (n : Nat) (k : List Rw → R), rowsR P all bs ops n k = k ((ops.zipIdx n).map (rwOf P all bs)) := by
  intro ops
  induction ops with
  | nil => intro n k; rfl
  | cons o ops ih =>
    intro n k
    show (natR ((lgQ bs n).getD 0) fun b => natR (mOf (dstL o)) fun d => natR (mOf (looks all o)) fun l => boolR (still P o.op) fun s => rowsR P all bs ops (n + 1) fun r => k (⟨n, b, d, l, s⟩ :: r)) = _
    rw [natR_eq, natR_eq, natR_eq, boolR_eq, ih, lg_eq]
    rfl
theorem bit_mOf (l : List Nat) (n : Nat) : (mOf l).testBit n = true ↔ n ∈ l := by
  induction l with
  | nil => show (0 : Nat).testBit n = true ↔ _; rw [Nat.zero_testBit]; simp
  | cons m l ih =>
    show (Nat.lor (Nat.pow 2 m) (mOf l)).testBit n = true ↔ _
    have : (Nat.lor (Nat.pow 2 m) (mOf l)).testBit n = ((2 ^ m).testBit n || (mOf l).testBit n) := Nat.testBit_or _ _ n
    rw [this, Bool.or_eq_true, ih, Nat.testBit_two_pow, decide_eq_true_iff, List.mem_cons]
    exact ⟨fun h => h.imp Eq.symm id, fun h => h.imp Eq.symm id⟩
theorem apart_of {a b : List Nat} (h : Nat.beq (Nat.land (mOf a) (mOf b)) 0 = true) : apartL a b = true := by
  have h0 : Nat.land (mOf a) (mOf b) = 0 := Nat.eq_of_beq_eq_true h
  unfold apartL
  rw [List.all_eq_true]
  intro x hx
  rw [List.all_eq_true]
  intro y hy
  cases hb : Nat.beq x y with
  | false => rfl
  | true =>
    have hxy : x = y := Nat.eq_of_beq_eq_true hb
    subst hxy
    have h1 : (Nat.land (mOf a) (mOf b)).testBit x = ((mOf a).testBit x && (mOf b).testBit x) := Nat.testBit_and _ _ x
    rw [h0, Nat.zero_testBit, (bit_mOf a x).2 hx, (bit_mOf b x).2 hy] at h1
    cases h1
theorem rowQ_all {i d l : Nat} : ∀ {r : List Rw}, rowQ i d l r = true → ∀ y ∈ r, bitN y.b i = true ∨ apQ d l y.d y.l = true := by
  intro r
  induction r with
  | nil => intro _ y hy; cases hy
  | cons z r ih =>
    intro h y hy
    obtain ⟨zi, zb, zd, zl, zs⟩ := z
    have h' : Bool.rec (motive := fun _ => Bool) (Bool.rec (motive := fun _ => Bool) false (rowQ i d l r) (apQ d l zd zl)) (rowQ i d l r) (bitN zb i) = true := h
    have key : (bitN zb i = true ∨ apQ d l zd zl = true) ∧ rowQ i d l r = true := by
      cases h1 : bitN zb i with
      | true => rw [h1] at h'; exact ⟨.inl rfl, h'⟩
      | false =>
        rw [h1] at h'
        cases h2 : apQ d l zd zl with
        | true => rw [h2] at h'; exact ⟨.inr rfl, h'⟩
        | false => rw [h2] at h'; cases h'
    rcases List.mem_cons.1 hy with rfl | hy
    · exact key.1
    · exact ih key.2 y hy
theorem allQ_pair : ∀ {r : List Rw}, allQ r = true → r.Pairwise fun x y => bitN y.b x.i = true ∨ apQ x.d x.l y.d y.l = true := by
  intro r
  induction r with
  | nil => intro _; exact .nil
  | cons x r ih =>
    intro h
    obtain ⟨i, b, d, l, s⟩ := x
    have h' : Bool.rec (motive := fun _ => Bool) false (allQ r) (rowQ i d l r) = true := h
    cases h1 : rowQ i d l r with
    | false => rw [h1] at h'; cases h'
    | true => rw [h1] at h'; exact .cons (fun y hy => rowQ_all h1 y hy) (ih h')
theorem drawsOk_of {P : Program} {ops : List Oper} (h1 : (edgesUp 0 ops && ops.all fun o => !isSel o.op) = true) (h2 : allQ (ops.zipIdx.map (rwOf P ops (befs ops []))) = true) : drawsOk ops = true := by
  unfold drawsOk
  rw [Bool.and_eq_true] at h1
  rw [h1.1, h1.2, Bool.true_and, Bool.true_and, List.all_eq_true]
  rintro ⟨oi, i⟩ hi
  rw [List.all_eq_true]
  rintro ⟨oj, j⟩ hj
  have hp := allQ_pair h2
  rw [List.pairwise_map] at hp
  show pairOk ops (befs ops []) i j oi oj = true
  unfold pairOk
  by_cases hij : j ≤ i
  · rw [show Nat.ble j i = true from Nat.ble_eq_true_of_le hij]; rfl
  · have hi' : ops.zipIdx[i]? = some (oi, i) := by
      have := List.mem_zipIdx_iff_getElem?.1 hi
      rw [List.getElem?_zipIdx]
      simp only [] at this
      rw [this]; simp
    have hj' : ops.zipIdx[j]? = some (oj, j) := by
      have := List.mem_zipIdx_iff_getElem?.1 hj
      rw [List.getElem?_zipIdx]
      simp only [] at this
      rw [this]; simp
    obtain ⟨li, ei⟩ := List.getElem?_eq_some_iff.1 hi'
    obtain ⟨lj, ej⟩ := List.getElem?_eq_some_iff.1 hj'
    have := (List.pairwise_iff_getElem.1 hp) i j li lj (by omega)
    rw [ei, ej] at this
    rw [Bool.or_eq_true, Bool.or_eq_true]
    right
    rcases this with h | h
    · left; rw [← bitN_eq]; exact h
    · right
      have h' : apQ (mOf (dstL oi)) (mOf (looks ops oi)) (mOf (dstL oj)) (mOf (looks ops oj)) = true := h
      unfold apQ at h'
      rw [bAnd_eq, bAnd_eq, Bool.and_eq_true, Bool.and_eq_true] at h'
      unfold slotsOk
      rw [apart_of h'.1, apart_of h'.2.1, apart_of h'.2.2]; rfl
theorem barQ_eq {P : Program} {ops : List Oper} {bs : List Nat} (i b : Nat) : ∀ (l : List (Oper × Nat)), barQ i b (l.map (rwOf P ops bs)) = l.all fun p => still P p.1.op || (Nat.beq i p.2 || (Nat.testBit ((bs[p.2]?).getD 0) i || Nat.testBit b p.2)) := by
  intro l
  induction l with
  | nil => rfl
  | cons p l ih =>
    rw [List.all_cons, ← ih]
    show Bool.rec (motive := fun _ => Bool) (Bool.rec (motive := fun _ => Bool) (Bool.rec (motive := fun _ => Bool) (Bool.rec (motive := fun _ => Bool) false (barQ i b (l.map (rwOf P ops bs))) (bitN b p.2)) (barQ i b (l.map (rwOf P ops bs))) (bitN ((bs[p.2]?).getD 0) i)) (barQ i b (l.map (rwOf P ops bs))) (Nat.beq i p.2)) (barQ i b (l.map (rwOf P ops bs))) (still P p.1.op) = _
    rw [bitN_eq, bitN_eq]
    cases still P p.1.op <;> cases Nat.beq i p.2 <;> cases Nat.testBit ((bs[p.2]?).getD 0) i <;> cases Nat.testBit b p.2 <;> rfl
theorem barsR_eq {R : Type} (all : List Rw) : ∀ (r : List Rw) (k : List Bool → R), barsR all r k = k (r.map fun x => match x.s with | true => false | false => barQ x.i x.b all) := by
  intro r
  induction r with
  | nil => intro k; rfl
  | cons x r ih =>
    intro k
    obtain ⟨i, b, d, l, s⟩ := x
    show (boolR (Bool.rec (motive := fun _ => Bool) (barQ i b all) false s) fun c => barsR all r fun r => k (c :: r)) = _
    rw [boolR_eq, ih]
    cases s <;> rfl
theorem barL_eq {P : Program} {ops : List Oper} : barL ((ops.zipIdx.map (rwOf P ops (befs ops []))).map fun x => match x.s with | true => false | false => barQ x.i x.b (ops.zipIdx.map (rwOf P ops (befs ops [])))) = barAt P ops (befs ops []) := by
  funext i
  unfold barL barAt
  rw [lg_eq, List.getElem?_map, List.getElem?_map, List.getElem?_zipIdx]
  cases h : ops[i]? with
  | none => rfl
  | some o =>
    simp only [Option.map_some, Option.getD_some, Nat.zero_add]
    show (match still P o.op with | true => false | false => barQ i (((befs ops [])[i]?).getD 0) (ops.zipIdx.map (rwOf P ops (befs ops [])))) = barOf P ops (befs ops []) i o
    unfold barOf
    cases still P o.op with
    | true => rfl
    | false => simp only [barQ_eq]; rfl
theorem commQ_eq : ∀ (ops : List Oper) (n : Nat), commQ ops n = commAt n ops := by
  intro ops
  induction ops with
  | nil => intro n; rfl
  | cons o ops ih =>
    intro n
    obtain ⟨dst, op, a, b, c, d⟩ := o
    cases op <;> first | exact ih (n + 1) | rfl
theorem stC_eq (g : G) (r : Rv) (p : Pq) (m : Cq) (cf : CallF) (t : F) (h : H) (k : List (F × H) → F → H → Bool) : (stCq g r p m).out cf t h k = guardK g t fun b => cxG b r p m cf t h k := by
  cases g with
  | none => rfl
  | some s w =>
    show (W.on (gq s) fun g => ⟨fun cf t h k => g t [] fun v => vG v w fun b => cxG b r p m cf t h k⟩).out cf t h k = _
    rw [W.on_out, W.mk_out, gq_out]; rfl
  | bad => rfl
theorem crQ_eq (bars : Nat → Bool) (P : Program) (nt : Nat) (all : List Oper) (cf : CallF) : ∀ (l : List Oper) (n : Nat) (t : F) (h : H) (k : List (F × H) → F → H → Bool), (crQ P nt all l).out cf t h k = chRun cf (compOpsWith bars P nt all (compOp P) n l) t h k := by
  intro l
  induction l with
  | nil => intro n t h k; rfl
  | cons o l ih =>
    intro n t h k
    show (W.on (dQ (dOf nt o.dst)) fun p => W.on (qRun P (rQ [] []) o.op) fun r => W.on (crQ P nt all l) fun m => stCq (compG nt all o.guard) r p m).out cf t h k
      = guardK (compG nt all o.guard) t fun b => opGo b (compOp P o.op) (dOf nt o.dst) cf (fun t1 h1 _ => chRun cf (compOpsWith bars P nt all (compOp P) (n + 1) l) t1 h1 fun l t2 h2 => k ((t1, h1) :: l) t2 h2) t h fun _ _ => true
    rw [W.on_out, W.on_out, W.on_out, stC_eq]
    congr 1; funext b
    cases b with
    | false =>
      show (dQ (dOf nt o.dst)).out (.tu []) t (fun t1 => (crQ P nt all l).out cf t1 h fun l t2 h2 => k ((t1, h) :: l) t2 h2) = putD (dOf nt o.dst) (.tu []) t fun t1 => chRun cf (compOpsWith bars P nt all (compOp P) (n + 1) l) t1 h fun l t2 h2 => k ((t1, h) :: l) t2 h2
      rw [dQ_out]; congr 1; funext t1; exact ih (n + 1) t1 h _
    | true =>
      show ((qRun P (rQ [] []) o.op).out cf t [] h fun v h1 => (dQ (dOf nt o.dst)).out v t fun t1 => (crQ P nt all l).out cf t1 h1 fun l t2 h2 => k ((t1, h1) :: l) t2 h2) = runK (compOp P o.op) cf t h fun v h1 => putD (dOf nt o.dst) v t fun t1 => chRun cf (compOpsWith bars P nt all (compOp P) (n + 1) l) t1 h1 fun l t2 h2 => k ((t1, h1) :: l) t2 h2
      rw [qRun_frame]; congr 1; funext v h1; rw [dQ_out]; congr 1; funext t1; exact ih (n + 1) t1 h1 _
theorem putD_const (nt : Nat) (d : Option Tmp) (v : V) (t : F) (x : Bool) : putD (dOf nt d) v t (fun _ => x) = dK (dOf nt d) x := by
  cases dOf nt d with
  | none => rfl
  | some s => obtain ⟨t', h1, _⟩ := sPut_ok s v t; exact h1 fun _ => x
  | bad => rfl
theorem lkQ_eq (P : Program) (nt : Nat) (all : List Oper) (o : Oper) (bar : Bool) (cf : CallF) (t : F) (h h2 : H) (k : Unit → Bool) :
    lkQ (compG nt all o.guard) (qRun P (rQ [] []) o.op).out (dOf nt o.dst) cf t h h2 k = lockK ⟨compG nt all o.guard, dOf nt o.dst, bar, compOp P o.op⟩ cf (fun t _ _ k => k t) t h h2 fun _ => k () := by
  show (guardK (compG nt all o.guard) t fun b => _) = guardK (compG nt all o.guard) t fun b => lockGo b (compOp P o.op) (dOf nt o.dst) cf (fun t _ _ k => k t) t h h2 fun _ => k ()
  congr 1; funext b
  cases b with
  | false =>
    show dK (dOf nt o.dst) (k ()) = putD (dOf nt o.dst) (.tu []) t fun _ => k ()
    rw [putD_const]
  | true =>
    show ((qRun P (rQ [] []) o.op).out cf t [] h fun v _ => (qRun P (rQ [] []) o.op).out cf t [] h2 fun v' _ => ifK (eqV v v') fun _ => dK (dOf nt o.dst) (k ())) = runK (compOp P o.op) cf t h fun v _ => runK (compOp P o.op) cf t h2 fun v' _ => ifK (eqV v v') fun _ => putD (dOf nt o.dst) v t fun _ => k ()
    rw [qRun_frame]; congr 1; funext v _; rw [qRun_frame]; congr 1; funext v' _; rw [putD_const]
theorem jsQ_eq (P : Program) (nt : Nat) (all : List Oper) (o : Oper) (bar : Bool) (cf : CallF) (l : List (F × H)) (ti : F) (hi : H) : ∀ (js : List Nat) (k : Unit → Bool),
    jsQ (compG nt all o.guard) (qRun P (rQ [] []) o.op).out (dOf nt o.dst) cf l ti hi js k = chJs ⟨compG nt all o.guard, dOf nt o.dst, bar, compOp P o.op⟩ cf l ti hi js k := by
  intro js
  induction js with
  | nil => intro k; rfl
  | cons j js ih =>
    intro k
    show (optK (lgQ l j) fun th => _) = optK l[j]? fun th => _
    rw [lg_eq]; congr 1; funext th
    obtain ⟨tj, hj⟩ := th
    show lkQ _ _ _ cf ti hi hj (fun _ => jsQ _ _ _ cf l ti hi js k) = lockK _ cf _ ti hi hj fun _ => chJs _ cf l ti hi js k
    rw [lkQ_eq P nt all o bar, ih]
theorem opsWith_get (bars : Nat → Bool) (P : Program) (nt : Nat) (all : List Oper) : ∀ (l : List Oper) (n i : Nat), (compOpsWith bars P nt all (compOp P) n l)[i]? = (l[i]?).map fun o => ⟨compG nt all o.guard, dOf nt o.dst, bars (n + i), compOp P o.op⟩ := by
  intro l
  induction l with
  | nil => intro n i; rfl
  | cons o l ih =>
    intro n i
    cases i with
    | zero => rfl
    | succ i =>
      show (compOpsWith bars P nt all (compOp P) (n + 1) l)[i]? = _
      rw [ih, List.getElem?_cons_succ, show n + 1 + i = n + (i + 1) by omega]
theorem ckQ_eq (bars : Nat → Bool) (P : Program) (nt : Nat) (all : List Oper) (cf : CallF) (l : List (F × H)) : ∀ (cs : List (Nat × List Nat)) (k : Unit → Bool), (ckQ P nt all cs).out cf l k = chChk cf (compOpsWith bars P nt all (compOp P) 0 all) l cs k := by
  intro cs
  induction cs with
  | nil => intro k; rfl
  | cons p cs ih =>
    intro k
    obtain ⟨i, js⟩ := p
    show (Option.rec (motive := fun _ => W Kq) ⟨fun _ _ _ => false⟩ (ckO P nt all i js (ckQ P nt all cs)) (lgQ all i)).out cf l k = optK (compOpsWith bars P nt all (compOp P) 0 all)[i]? fun o => optK l[i]? fun th => Prod.rec (motive := fun _ => Bool) (fun ti hi => chJs o cf l ti hi js fun _ => chChk cf (compOpsWith bars P nt all (compOp P) 0 all) l cs k) th
    rw [lg_eq, opsWith_get]
    cases all[i]? with
    | none => rfl
    | some o =>
      show (ckO P nt all i js (ckQ P nt all cs) o).out cf l k = optK l[i]? fun th => _
      unfold ckO
      rw [W.on_out, W.on_out, W.mk_out, lg_eq]
      congr 1; funext th
      obtain ⟨ti, hi⟩ := th
      show jsQ _ _ _ cf l ti hi js (fun _ => (ckQ P nt all cs).out cf l k) = chJs _ cf l ti hi js fun _ => chChk cf _ l cs k
      rw [jsQ_eq P nt all o (bars (0 + i)), ih]
theorem dcQ_some (bars : Nat → Bool) (P : Program) (nt : Nat) (ops : List Oper) (nx : W StF) (ld : List Nat) (cs : List (Nat × List Nat)) (cf : CallF) (t : F) (e : E) (h : H) (k : K) :
    (dcQ bars P nt ops nx (some (ld, cs))).out cf t e h k = execCh cf (compOpsWith bars P nt ops (compOp P) 0 ops) cs t h fun t h => nx.out cf t [] h k := by
  show (W.on (crQ P nt ops ops) fun run => W.on (ckQ P nt ops cs) fun ck => W.on nx fun nx => ⟨fun cf t _ h k => run cf t h fun l t1 h1 => ck cf ((t, h) :: l) fun _ => nx cf t1 [] h1 k⟩).out cf t e h k = chRun cf (compOpsWith bars P nt ops (compOp P) 0 ops) t h fun l t1 h1 => chChk cf (compOpsWith bars P nt ops (compOp P) 0 ops) ((t, h) :: l) cs fun _ => nx.out cf t1 [] h1 k
  rw [W.on_out, W.on_out, W.on_out, W.mk_out, crQ_eq bars P nt ops cf ops 0]
  congr 1; funext l t1 h1
  rw [ckQ_eq bars]
noncomputable def aft (nx : W StF) (cf : CallF) (k : K) (x : X) (t : F) (e : E) (h : H) : Bool := X.rec (fun t e h => nx.out cf t e h k) (fun id t _ h => k (.exit id) t h) (fun t _ h => k .ret t h) x t e h
def QOk (P : Program) (cf : CallF) (nt dm : Nat) (c : Code) (w : Lay → (Lay → W StF) → W StF) : Prop := ∀ nx l t e h k, LayOk dm l e → Clr dm t → (w l nx).out cf t e h k = true →
  ∃ x l' t' e' h', (∀ k', (w l nx).out cf t e h k' = aft (nx l') cf k' x t' e' h') ∧ LayOk dm l' e' ∧ Clr dm t' ∧ KeepF h h' ∧ B.val h.next ≤ B.val h'.next ∧
    ∀ ρ a w w0 (Q : Exit → Act → World → Prop), ARel ρ nt (star l t e) a → HRel ρ h w w0 → (∀ ρ' a' w', Ext h.floor ρ ρ' → ARel ρ' nt (star l' t' e') a' → HRel ρ' h' w' w0 → Q (xOf x) a' w') → c.wp P Q a w
theorem badQ_ok {P : Program} {cf : CallF} {nt dm : Nat} {c : Code} : QOk P cf nt dm c fun _ _ => badQ := fun _ _ _ _ _ _ _ _ h => Bool.noConfusion h
theorem clr_of {dm : Nat} {ops : List Oper} {t t' : F} (ho : (ops.all fun o => !handB dm o.dst) = true) (hi : Clr dm t) (h : ∀ m, m < 512 → (∀ o ∈ ops, o.dst ≠ some m) → sGet (slOf m) t' = sGet (slOf m) t) : Clr dm t' := by
  intro m hm hb
  rw [h m hm fun o hO hd => ?_]
  · exact hi m hm hb
  · have := List.all_eq_true.1 ho o hO
    rw [hd] at this
    simp [handB, hb] at this
theorem region_q {P : Program} (hm : P.follows .mixedOrders = true) {cf : CallF} (hcf : CfOk P cf) (nt dm am id : Nat) (ops : Array Oper) (draw : Bool) : QOk P cf nt dm (.region id ops draw) (fun l nx => rgQ P nt dm am ops.toList draw l nx) := by
  intro nx l t e h k hl hi hk
  cases draw with
  | false =>
    cases hc : commAt 0 ops.toList with
    | none =>
      have e0 : rgQ P nt dm am ops.toList false l nx = chV P nt dm am ops.toList nx ops.toList l := by simp only [rgQ, commQ_eq, hc]
      simp only [e0] at hk ⊢
      obtain ⟨l', t', e', h', a1, a2, a3, a4, a5, a6⟩ := chV_ok hcf ops.toList 0 (by simp) l t e h k hl hi hk
      refine ⟨.normal, l', t', e', h', fun k' => by rw [a1]; rfl, a2, a3, a4, a5, fun ρ a w w0 Q A R hQ => ?_⟩
      refine wp_region ?_
      have := a6 ρ a w w0 Q A R hQ
      rwa [show List.range' 0 ops.toList.length = List.range ops.size by rw [List.range_eq_range']; simp] at this
    | some n =>
      have e0 : rgQ P nt dm am ops.toList false l nx = cmQ dm (compComm P nt ops.toList n) (nx .zero) := by simp only [rgQ, commQ_eq, hc]
      simp only [e0] at hk ⊢
      obtain ⟨j, rfl, hj⟩ := commAt_lt hc
      rw [Nat.zero_add] at hk ⊢
      have hj' : j < ops.size := by simpa using hj
      obtain ⟨⟨dst, op, e1, e2, e3, g⟩, ho⟩ : ∃ o, ops[j]? = some o := ⟨ops[j], by simp [hj']⟩
      have ho' : ops.toList[j]? = some ⟨dst, op, e1, e2, e3, g⟩ := by simpa using ho
      cases hd : Nat.beq dm 0 with
      | false =>
        have e : cmQ dm (compComm P nt ops.toList j) (nx .zero) = badQ := by simp only [cmQ, hd]
        rw [e] at hk; exact Bool.noConfusion hk
      | true =>
      cases g with
      | some g =>
        have e : cmQ dm (compComm P nt ops.toList j) (nx .zero) = badQ := by simp only [compComm, ho', cmQ, hd]
        rw [e] at hk; exact Bool.noConfusion hk
      | none =>
        have eq : ∀ k', (cmQ dm (compComm P nt ops.toList j) (nx .zero)).out cf t e h k' = (execOps cf (compOpsWith (fun _ => true) P nt ops.toList (compOp P) 0 (ops.toList.take j)) t h fun t h => cmK (compCm P op) t h fun v h => putD (dOf nt dst) v t fun t => execOps cf (compOpsWith (fun _ => true) P nt ops.toList (compOp P) (j + 1) (ops.toList.drop (j + 1))) t h fun t h => (nx .zero).out cf t [] h k') := by
          intro k'
          simp only [compComm, ho', cmQ, hd]
          rw [W.on_out]; rfl
        rw [eq] at hk
        obtain ⟨t', h', a1, a2, a3, a4⟩ := comm_region (id := id) hcf ho (compCm_ok P _) (k := fun _ t h => (nx .zero).out cf t [] h k) hk
        have hdm : dm = 0 := Nat.eq_of_beq_eq_true hd
        refine ⟨.normal, .zero, t', [], h', fun k' => by rw [eq]; exact a1 fun _ t h => (nx .zero).out cf t [] h k', LayOk.zero _ _, fun m _ hb => (by rw [hdm, bitN_zero] at hb; cases hb), a2, a3, fun ρ a w w0 Q A R hQ => ?_⟩
        exact a4 ρ a w w0 Q (A.weak hl hi) R fun ρ' a' w' l1 A' R' => hQ ρ' a' w' l1 A'.of_zero R'
  | true =>
    cases hd1 : (edgesUp 0 ops.toList && ops.toList.all fun o => !isSel o.op) with
    | false =>
      have e : rgQ P nt dm am ops.toList true l nx = badQ := by simp only [rgQ, hd1]
      simp only [e] at hk; exact Bool.noConfusion hk
    | true =>
    cases ho : ops.toList.all fun o => !handB dm o.dst with
    | false =>
      have e : rgQ P nt dm am ops.toList true l nx = badQ := by simp only [rgQ, hd1, ho]
      simp only [e] at hk; exact Bool.noConfusion hk
    | true =>
    cases hd2 : allQ (ops.toList.zipIdx.map (rwOf P ops.toList (befs ops.toList []))) with
    | false =>
      have e : rgQ P nt dm am ops.toList true l nx = badQ := by simp only [rgQ, hd1, ho, befsR_eq, rowsR_eq, hd2]
      simp only [e] at hk; exact Bool.noConfusion hk
    | true =>
      have hd : drawsOk ops.toList = true := drawsOk_of hd1 hd2
      have e0 : rgQ P nt dm am ops.toList true l nx = dcQ (barAt P ops.toList (befs ops.toList [])) P nt ops.toList (nx .zero) (chainOf P (barAt P ops.toList (befs ops.toList [])) (befs ops.toList []) ops.toList) := by
        simp only [rgQ, hd1, ho, befsR_eq, rowsR_eq, hd2, barsR_eq, barL_eq]
      simp only [e0] at hk ⊢
      cases hc : chainOf P (barAt P ops.toList (befs ops.toList [])) (befs ops.toList []) ops.toList with
      | none =>
        rw [hc] at hk
        cases hops : ops.toList with
        | nil =>
          have eq : ∀ k', (dcQ (barAt P ops.toList (befs ops.toList [])) P nt ops.toList (nx .zero) none).out cf t e h k' = (nx .zero).out cf t e h k' := fun k' => by rw [hops]; rfl
          have hk0 : execDr cf (compOpsWith (barAt P ops.toList (befs ops.toList [])) P nt ops.toList (compOp P) 0 ops.toList) t h (fun _ _ => true) = true := by rw [hops]; rfl
          obtain ⟨t', h', a1, a2, a3, a4⟩ := draws_ok hm hcf hd hk0
          have hth : t' = t ∧ h' = h := by
            have := a1 fun y g => @decide (y = t ∧ g = h) (Classical.propDecidable _)
            rw [hops] at this
            have := this.symm.trans (@decide_eq_true _ (Classical.propDecidable _) ⟨rfl, rfl⟩)
            exact @of_decide_eq_true _ (Classical.propDecidable _) this
          obtain ⟨rfl, rfl⟩ := hth
          refine ⟨.normal, .zero, t', e, h', fun k' => by rw [← hops]; exact eq k', LayOk.zero _ _, hi, a2, a3, fun ρ a w w0 Q A R hQ => ?_⟩
          exact a4 ρ a w w0 id Q (A.weak hl hi) R fun ρ' a' w' l1 A' R' => hQ ρ' a' w' l1 A'.of_zero R'
        | cons o r =>
          have eq : ∀ k', (dcQ (barAt P ops.toList (befs ops.toList [])) P nt ops.toList (nx .zero) none).out cf t e h k' = execDr cf (compOpsWith (barAt P ops.toList (befs ops.toList [])) P nt ops.toList (compOp P) 0 ops.toList) t h fun t h => (nx .zero).out cf t [] h k' := by
            intro k'
            have := drQ_eq (barAt P ops.toList (befs ops.toList [])) P nt ops.toList (nx .zero) cf k' ops.toList 0 t h
            rw [← this]
            show (drQ (barAt P ops.toList (befs ops.toList [])) P nt ops.toList (nx .zero) 0 ops.toList).out cf t e h k' = _
            have h2 := drQ_any (barAt P ops.toList (befs ops.toList [])) P nt ops.toList (nx .zero) 0 o r cf t e h k'
            rw [← hops] at h2
            exact h2
          rw [eq] at hk
          obtain ⟨t', h', a1, a2, a3, a4⟩ := draws_ok hm hcf hd hk
          obtain ⟨t2, h2, b1, b2⟩ := dr_fr hcf _ _ _ _ _ _ hk
          have hth : t2 = t' := by
            have := (a1 fun y _ => @decide (y = t') (Classical.propDecidable _)).symm.trans (b1 _)
            have := this.symm.trans (@decide_eq_true _ (Classical.propDecidable _) rfl)
            exact @of_decide_eq_true _ (Classical.propDecidable _) this
          subst hth
          refine ⟨.normal, .zero, t2, [], h', fun k' => by rw [← hops, eq, a1]; rfl, LayOk.zero _ _, clr_of ho hi b2, a2, a3, fun ρ a w w0 Q A R hQ => ?_⟩
          exact a4 ρ a w w0 id Q (A.weak hl hi) R fun ρ' a' w' l1 A' R' => hQ ρ' a' w' l1 A'.of_zero R'
      | some cs =>
        obtain ⟨ld, cs⟩ := cs
        rw [hc] at hk
        have eq : ∀ k', (dcQ (barAt P ops.toList (befs ops.toList [])) P nt ops.toList (nx .zero) (some (ld, cs))).out cf t e h k' = execCh cf (compOpsWith (barAt P ops.toList (befs ops.toList [])) P nt ops.toList (compOp P) 0 ops.toList) cs t h fun t h => (nx .zero).out cf t [] h k' := by
          intro k'
          exact dcQ_some _ P nt ops.toList (nx .zero) ld cs cf t e h k'
        rw [eq] at hk
        obtain ⟨t', h', a1, a2, a3, a4⟩ := drawsCh_ok hm hcf hd hc _ hk
        have hk2 : chRun cf (compOpsWith (barAt P ops.toList (befs ops.toList [])) P nt ops.toList (compOp P) 0 ops.toList) t h (fun l t1 h1 => chChk cf (compOpsWith (barAt P ops.toList (befs ops.toList [])) P nt ops.toList (compOp P) 0 ops.toList) ((t, h) :: l) cs fun _ => (nx .zero).out cf t1 [] h1 k) = true := hk
        obtain ⟨x, t2, h2, b1, b2⟩ := ch_fr hcf _ _ _ _ _ _ hk2
        have hth : t' = t2 := by
          have c0 : ∀ K : F → H → Bool, chChk cf (compOpsWith (barAt P ops.toList (befs ops.toList [])) P nt ops.toList (compOp P) 0 ops.toList) ((t, h) :: x) cs (fun _ => K t2 h2) = K t' h' := fun K => (b1 fun l t1 h1 => chChk cf (compOpsWith (barAt P ops.toList (befs ops.toList [])) P nt ops.toList (compOp P) 0 ops.toList) ((t, h) :: l) cs fun _ => K t1 h1).symm.trans (a1 K)
          have c1 := c0 fun _ _ => true
          have c2 := c0 fun y _ => @decide (y = t2) (Classical.propDecidable _)
          have c3 : (@decide (t2 = t2) (Classical.propDecidable _)) = true := @decide_eq_true _ (Classical.propDecidable _) rfl
          simp only [c3] at c2
          have := c2.symm.trans c1
          exact @of_decide_eq_true _ (Classical.propDecidable _) this
        subst hth
        refine ⟨.normal, .zero, t', [], h', fun k' => by rw [eq, a1]; rfl, LayOk.zero _ _, clr_of ho hi b2, a2, a3, fun ρ a w w0 Q A R hQ => ?_⟩
        exact a4 ρ a w w0 id Q (A.weak hl hi) R fun ρ' a' w' l1 A' R' => hQ ρ' a' w' l1 A'.of_zero R'
theorem cnV_ok {a b : StF} {cf : CallF} {t : F} {e : E} {h : H} {k : K} {v : V} (hk : cnV a b cf t e h k v = true) : ∃ x, v = .b x ∧ ∀ k', cnV a b cf t e h k' v = (bif x then a cf t e h k' else b cf t e h k') := by
  cases v <;> try exact Bool.noConfusion hk
  rename_i x
  exact ⟨x, rfl, fun k' => by cases x <;> rfl⟩
/-- what is told of a loop's turns -/
theorem loop_q {P : Program} {cf : CallF} {nt dm : Nat} {c : Code} {w : Lay → (Lay → W StF) → W StF} (hc : QOk P cf nt dm c w) : ∀ n (t : F) (e : E) (h : H) (k : K), Clr dm t → lpQ (w .zero fun _ => endQ).out n cf t e h k = true →
    ∃ x t' h', (∀ k', lpQ (w .zero fun _ => endQ).out n cf t e h k' = k' x t' h') ∧ x ≠ .normal ∧ Clr dm t' ∧ KeepF h h' ∧ B.val h.next ≤ B.val h'.next ∧ LoopSound P nt c t h x t' h' := by
  intro n
  induction n with
  | zero => intro t e h k hi hk; exact Bool.noConfusion hk
  | succ n ih =>
    intro t e h k hi hk
    have eq : ∀ k', lpQ (w .zero fun _ => endQ).out (n + 1) cf t e h k' = (w .zero fun _ => endQ).out cf t e h (lpK (lpQ (w .zero fun _ => endQ).out n) cf k') := fun _ => rfl
    rw [eq] at hk
    obtain ⟨x, l1, t1, e1, h1, a1, a5, a6, a2, a3, a4⟩ := hc (fun _ => endQ) .zero t e h _ (LayOk.zero dm e) hi hk
    rw [a1] at hk
    have a4' : ∀ ρ a w w0 (Q : Exit → Act → World → Prop), ARel ρ nt t a → HRel ρ h w w0 → (∀ ρ' a' w', Ext h.floor ρ ρ' → ARel ρ' nt t1 a' → HRel ρ' h1 w' w0 → Q (xOf x) a' w') → c.wp P Q a w :=
      fun ρ a w w0 Q A R hQ => a4 ρ a w w0 Q A.of_zero R fun ρ' a' w' l1 A' R' => hQ ρ' a' w' l1 (A'.weak a5 a6) R'
    cases x with
    | normal =>
      have e2 : ∀ k', aft endQ cf (lpK (lpQ (w .zero fun _ => endQ).out n) cf k') .normal t1 e1 h1 = lpQ (w .zero fun _ => endQ).out n cf t1 [] h1 k' := fun _ => rfl
      rw [e2] at hk
      obtain ⟨x2, t2, h2, b1, b5, b6, b2, b3, b4⟩ := ih t1 [] h1 k a6 hk
      refine ⟨x2, t2, h2, fun k' => by rw [eq, a1, e2, b1], b5, b6, KeepF.trans a2 a3 b2, Nat.le_trans a3 b3, fun ρ a w w0 Q A R hQ => ?_⟩
      refine loopArr_of (a4' ρ a w w0 _ A R fun ρ' a' w' l1 A' R' => ?_)
      exact b4 ρ' a' w' w0 Q A' R' fun ρ'' a'' w'' l2 A'' R'' => hQ ρ'' a'' w'' (l1.trans (by rw [← a2.1]; exact l2)) A'' R''
    | exit id =>
      refine ⟨.exit id, t1, h1, fun k' => by rw [eq, a1]; rfl, (fun h => by cases h), a6, a2, a3, fun ρ a w w0 Q A R hQ => ?_⟩
      exact loopArr_of (a4' ρ a w w0 _ A R fun ρ' a' w' l1 A' R' => hQ ρ' a' w' l1 A' R')
    | ret =>
      refine ⟨.ret, t1, h1, fun k' => by rw [eq, a1]; rfl, (fun h => by cases h), a6, a2, a3, fun ρ a w w0 Q A R hQ => ?_⟩
      exact loopArr_of (a4' ρ a w w0 _ A R fun ρ' a' w' l1 A' R' => hQ ρ' a' w' l1 A' R')
/-- with what is at hand dropped, or not -/
theorem drop_q {P : Program} {cf : CallF} {nt dm : Nat} {c : Code} {w : Lay → (Lay → W StF) → W StF} (hc : QOk P cf nt dm c w) (b : Bool) : QOk P cf nt dm c fun l nx => w l (dropN b nx) := by
  intro nx l t e h k hl hi hk
  obtain ⟨x, l', t', e', h', a1, a5, a6, a2, a3, a4⟩ := hc (dropN b nx) l t e h k hl hi hk
  cases b with
  | true => exact ⟨x, l', t', e', h', a1, a5, a6, a2, a3, a4⟩
  | false => exact ⟨x, .zero, t', e', h', a1, LayOk.zero _ _, a6, a2, a3, fun ρ a w w0 Q A R hQ => a4 ρ a w w0 Q A R fun ρ' a' w' l1 A' R' => hQ ρ' a' w' l1 (A'.zero a5 a6) R'⟩
theorem code_q {P : Program} (hm : P.follows .mixedOrders = true) {cf : CallF} (hcf : CfOk P cf) (nt dm am : Nat) : ∀ c, QOk P cf nt dm c (sC P nt dm am c) := by
  intro c
  induction c with
  | skip => intro nx l t e h k hl hi hk; exact ⟨.normal, l, t, e, h, fun _ => rfl, hl, hi, KeepF.refl h, Nat.le_refl _, fun ρ a w w0 Q A R hQ => wp_skip (hQ ρ a w (Ext.refl _ ρ) A R)⟩
  | label s => intro nx l t e h k hl hi hk; exact ⟨.normal, l, t, e, h, fun _ => rfl, hl, hi, KeepF.refl h, Nat.le_refl _, fun ρ a w w0 Q A R hQ => wp_label (hQ ρ a w (Ext.refl _ ρ) A R)⟩
  | exit id => intro nx l t e h k hl hi hk; exact ⟨.exit id, l, t, e, h, fun _ => rfl, hl, hi, KeepF.refl h, Nat.le_refl _, fun ρ a w w0 Q A R hQ => wp_exit (hQ ρ a w (Ext.refl _ ρ) A R)⟩
  | ret => intro nx l t e h k hl hi hk; exact ⟨.ret, l, t, e, h, fun _ => rfl, hl, hi, KeepF.refl h, Nat.le_refl _, fun ρ a w w0 Q A R hQ => wp_ret (hQ ρ a w (Ext.refl _ ρ) A R)⟩
  | goto l => exact badQ_ok
  | refuse s => exact badQ_ok
  | rangeFunc f ps x y ihx ihy => exact badQ_ok
  | region id ops draw => exact region_q hm hcf nt dm am id ops draw
  | scope c ihc =>
    intro nx l t e h k hl hi hk
    obtain ⟨x, l', t', e', h', a1, a5, a6, a2, a3, a4⟩ := ihc nx l t e h k hl hi hk
    refine ⟨x, l', t', e', h', a1, a5, a6, a2, a3, fun ρ a w w0 Q A R hQ => wp_scope_straight (a4 ρ a w w0 _ A R fun ρ' a' w' l1 A' R' => ?_)⟩
    have := hQ ρ' a' w' l1 A' R'
    cases x <;> exact this
  | loop c ihc =>
    intro nx l t e h k hl hi hk
    have eq : ∀ k', (sC P nt dm am (.loop c) l nx).out cf t e h k' = lpQ (sC P nt dm am c .zero fun _ => endQ).out 1000000 cf t e h k' := fun k' => by
      show (W.on (sC P nt dm am c .zero fun _ => endQ) fun a => ⟨lpQ a 1000000⟩).out cf t e h k' = _
      rw [W.on_out]; rfl
    rw [eq] at hk
    obtain ⟨x, t', h', a1, a5, a6, a2, a3, a4⟩ := loop_q ihc 1000000 t e h k hi hk
    refine ⟨x, .zero, t', [], h', fun k' => by rw [eq, a1]; cases x <;> first | rfl | exact absurd rfl a5, LayOk.zero _ _, a6, a2, a3, fun ρ a w w0 Q A R hQ => wp_loop_of (a4 ρ a w w0 Q (A.weak hl hi) R fun ρ' a' w' l1 A' R' => hQ ρ' a' w' l1 A'.of_zero R')⟩
  | seq c1 c2 ih1 ih2 =>
    intro nx l t e h k hl hi hk
    obtain ⟨x, l1, t1, e1, h1, a1, a5, a6, a2, a3, a4⟩ := ih1 (fun l => sC P nt dm am c2 l nx) l t e h k hl hi hk
    have eq : ∀ k', (sC P nt dm am (.seq c1 c2) l nx).out cf t e h k' = (sC P nt dm am c1 l fun l => sC P nt dm am c2 l nx).out cf t e h k' := fun _ => rfl
    rw [eq, a1] at hk
    cases x with
    | normal =>
      have e2 : ∀ k', aft (sC P nt dm am c2 l1 nx) cf k' .normal t1 e1 h1 = (sC P nt dm am c2 l1 nx).out cf t1 e1 h1 k' := fun _ => rfl
      rw [e2] at hk
      obtain ⟨x2, l2, t2, e2', h2, b1, b5, b6, b2, b3, b4⟩ := ih2 nx l1 t1 e1 h1 k a5 a6 hk
      refine ⟨x2, l2, t2, e2', h2, fun k' => by rw [eq, a1, e2, b1], b5, b6, KeepF.trans a2 a3 b2, Nat.le_trans a3 b3, fun ρ a w w0 Q A R hQ => ?_⟩
      refine wp_seq (a4 ρ a w w0 _ A R fun ρ' a' w' l1 A' R' => ?_)
      exact b4 ρ' a' w' w0 Q A' R' fun ρ'' a'' w'' l2 A'' R'' => hQ ρ'' a'' w'' (l1.trans (by rw [← a2.1]; exact l2)) A'' R''
    | exit id =>
      refine ⟨.exit id, l1, t1, e1, h1, fun k' => by rw [eq, a1]; rfl, a5, a6, a2, a3, fun ρ a w w0 Q A R hQ => ?_⟩
      exact wp_seq (a4 ρ a w w0 _ A R fun ρ' a' w' l1 A' R' => hQ ρ' a' w' l1 A' R')
    | ret =>
      refine ⟨.ret, l1, t1, e1, h1, fun k' => by rw [eq, a1]; rfl, a5, a6, a2, a3, fun ρ a w w0 Q A R hQ => ?_⟩
      exact wp_seq (a4 ρ a w w0 _ A R fun ρ' a' w' l1 A' R' => hQ ρ' a' w' l1 A' R')
  | cond c c1 c2 ih1 ih2 =>
    intro nx l t e h k hl hi hk
    have eq : ∀ k', (sC P nt dm am (.cond c c1 c2) l nx).out cf t e h k' = cnV (sC P nt dm am c1 l (dropN (nev c2) nx)).out (sC P nt dm am c2 l (dropN (nev c1) nx)).out cf t e h k' (oV (compO c) (star l t e)) := fun k' => by
      show (W.on (rQ l.ls l.al c) fun c => W.on (sC P nt dm am c1 l (dropN (nev c2) nx)) fun a => W.on (sC P nt dm am c2 l (dropN (nev c1) nx)) fun b => ⟨fun cf t e h k => c t e (cnV a b cf t e h k)⟩).out cf t e h k' = _
      rw [W.on_out, W.on_out, W.on_out, W.mk_out, rQ_sees hl c]
    rw [eq] at hk
    obtain ⟨b, hb, hc⟩ := cnV_ok hk
    rw [hc] at hk
    have hev : ∀ ρ a, ARel ρ nt (star l t e) a → a.eval c = .bool b := fun ρ a A => by
      have := opnd_rel A c
      rw [hb] at this; exact this
    cases b with
    | true =>
      obtain ⟨x, l1, t1, e1, h1, a1, a5, a6, a2, a3, a4⟩ := drop_q ih1 (nev c2) nx l t e h k hl hi hk
      exact ⟨x, l1, t1, e1, h1, fun k' => by rw [eq, hc]; exact a1 k', a5, a6, a2, a3, fun ρ a w w0 Q A R hQ => wp_cond_true (hev ρ a A) (a4 ρ a w w0 Q A R hQ)⟩
    | false =>
      obtain ⟨x, l1, t1, e1, h1, a1, a5, a6, a2, a3, a4⟩ := drop_q ih2 (nev c1) nx l t e h k hl hi hk
      exact ⟨x, l1, t1, e1, h1, fun k' => by rw [eq, hc]; exact a1 k', a5, a6, a2, a3, fun ρ a w w0 Q A R hQ => wp_cond_false (hev ρ a A) (a4 ρ a w w0 Q A R hQ)⟩
  | block id c ihc =>
    intro nx l t e h k hl hi hk
    have eq : ∀ k', (sC P nt dm am (.block id c) l nx).out cf t e h k' = (sC P nt dm am c l fun _ => endQ).out cf t e h (blkQ id (nx .zero).out cf k') := fun k' => by
      show (W.on (sC P nt dm am c l fun _ => endQ) fun a => W.on (nx .zero) fun nx => ⟨fun cf t e h k => a cf t e h (blkQ id nx cf k)⟩).out cf t e h k' = _
      rw [W.on_out, W.on_out]; rfl
    rw [eq] at hk
    obtain ⟨x, l1, t1, e1, h1, a1, a5, a6, a2, a3, a4⟩ := ihc (fun _ => endQ) l t e h _ hl hi hk
    cases x with
    | normal => exact ⟨.normal, .zero, t1, [], h1, fun k' => by rw [eq, a1]; rfl, LayOk.zero _ _, a6, a2, a3, fun ρ a w w0 Q A R hQ => wp_block (a4 ρ a w w0 _ A R fun ρ' a' w' l1 A' R' => hQ ρ' a' w' l1 (A'.zero a5 a6) R')⟩
    | ret => exact ⟨.ret, .zero, t1, [], h1, fun k' => by rw [eq, a1]; rfl, LayOk.zero _ _, a6, a2, a3, fun ρ a w w0 Q A R hQ => wp_block (a4 ρ a w w0 _ A R fun ρ' a' w' l1 A' R' => hQ ρ' a' w' l1 (A'.zero a5 a6) R')⟩
    | exit j =>
      have e2 : ∀ k', aft endQ cf (blkQ id (nx .zero).out cf k') (.exit j) t1 e1 h1 = Bool.rec (motive := fun _ => Nat → StF → CallF → K → F → H → Bool) (fun j _ _ k t h => k (.exit j) t h) (fun _ n cf k t h => n cf t [] h k) (Nat.beq j id) j (nx .zero).out cf k' t1 h1 := fun _ => rfl
      cases hj : Nat.beq j id with
      | true =>
        have hji : j = id := Nat.eq_of_beq_eq_true hj
        refine ⟨.normal, .zero, t1, [], h1, fun k' => by rw [eq, a1, e2, hj]; rfl, LayOk.zero _ _, a6, a2, a3, fun ρ a w w0 Q A R hQ => wp_block (a4 ρ a w w0 _ A R fun ρ' a' w' l1 A' R' => ?_)⟩
        show (if j = id then Q .normal a' w' else Q (.exit j) a' w')
        rw [if_pos hji]; exact hQ ρ' a' w' l1 (A'.zero a5 a6) R'
      | false =>
        have hji : ¬ j = id := fun h => by rw [h] at hj; simp at hj
        refine ⟨.exit j, .zero, t1, [], h1, fun k' => by rw [eq, a1, e2, hj]; rfl, LayOk.zero _ _, a6, a2, a3, fun ρ a w w0 Q A R hQ => wp_block (a4 ρ a w w0 _ A R fun ρ' a' w' l1 A' R' => ?_)⟩
        show (if j = id then Q .normal a' w' else Q (.exit j) a' w')
        rw [if_neg hji]; exact hQ ρ' a' w' l1 (A'.zero a5 a6) R'
theorem rsQ_eq (r : Rs) (t : F) (h : H) (k : V → Bool) : (rsQ r).out t h k = rsK r t h k := by
  cases r with
  | tmp s =>
    show (W.on (gq s) fun g => ⟨fun t _ k => g t [] k⟩).out t h k = forceV (sGet s t) k
    rw [W.on_out, W.mk_out, gq_out, forceV_eq]
  | cell s size =>
    show (W.on (gq s) fun g => ⟨fun t h k => g t [] (ldV h fun v _ => k v)⟩).out t h k = vP (sGet s t) fun id g off fin => load1 h id g off fin k
    rw [W.on_out, W.mk_out, gq_out, ldV_eq]
  | cellA s size => rfl
  | no => rfl
theorem rtQ_eq (rs : List Rs) (t : F) (h : H) (k : V → H → Bool) : (rtQ rs).out t h k = resK rs t h fun vs => forceV (one vs) fun v => k v h := by
  match rs with
  | [] => rfl
  | [r] =>
    show (W.on (rsQ r) fun g => ⟨fun t h k => g t h fun v => k v h⟩).out t h k = rsK r t h fun v => forceV (one [v]) fun v => k v h
    rw [W.on_out, W.mk_out, rsQ_eq]; congr 1; funext v; rw [forceV_eq]; rfl
  | [r, s] =>
    show (W.on (rsQ r) fun f => W.on (rsQ s) fun g => ⟨fun t h k => f t h fun v => g t h fun w => k (.tu [v, w]) h⟩).out t h k = rsK r t h fun v => rsK s t h fun w => forceV (one [v, w]) fun v => k v h
    rw [W.on_out, W.on_out, W.mk_out, rsQ_eq]; congr 1; funext v; rw [rsQ_eq]; congr 1
  | r :: s :: u :: l => rfl
theorem rK_eq (rs : List Rs) (k : V → H → Bool) : rK (rtQ rs).out k = retK rs k := by
  funext x t h
  cases x with
  | normal => exact rtQ_eq rs t h k
  | exit id => rfl
  | ret => exact rtQ_eq rs t h k
/-- the room for the arguments; none of them is a slot that is kept at hand -/
theorem arF_eq (args : List V) (nt dm : Nat) (k : F → Bool) : arF args nt dm k = ifK (roomQ args.length nt dm) fun _ => ifK (Nat.ble args.length 512) fun _ => slots args 0 F.zero k := by
  have r0 : roomQ 0 nt dm = true := by
    show bAnd (Nat.ble 0 nt) (Nat.beq (dm % 2 ^ 0) 0) = true
    rw [bAnd_eq, show dm % 2 ^ 0 = 0 by simp [Nat.mod_one]]
    cases nt <;> rfl
  match args with
  | [] => show _ = ifK (roomQ 0 nt dm) _; rw [r0]; rfl
  | [a] =>
    show Bool.rec (motive := fun _ => V → (F → Bool) → Bool) _ _ (roomQ 1 nt dm) a k = ifK (roomQ 1 nt dm) _
    cases roomQ 1 nt dm <;> rfl
  | [a, b] =>
    show Bool.rec (motive := fun _ => V → V → (F → Bool) → Bool) _ _ (roomQ 2 nt dm) a b k = ifK (roomQ 2 nt dm) _
    cases roomQ 2 nt dm <;> rfl
  | [a, b, c] =>
    show Bool.rec (motive := fun _ => V → V → V → (F → Bool) → Bool) _ _ (roomQ 3 nt dm) a b c k = ifK (roomQ 3 nt dm) _
    cases roomQ 3 nt dm <;> rfl
  | [a, b, c, d] =>
    show Bool.rec (motive := fun _ => V → V → V → V → (F → Bool) → Bool) _ _ (roomQ 4 nt dm) a b c d k = ifK (roomQ 4 nt dm) _
    cases roomQ 4 nt dm <;> rfl
  | a :: b :: c :: d :: e :: r => rfl
theorem roomQ_ok {n nt dm : Nat} (h : roomQ n nt dm = true) : Nat.ble n nt = true ∧ ∀ m, m < n → bitN dm m = false := by
  unfold roomQ at h
  rw [bAnd_eq, Bool.and_eq_true] at h
  refine ⟨h.1, fun m hm => ?_⟩
  have h2 : dm % 2 ^ n = 0 := Nat.eq_of_beq_eq_true h.2
  rw [bitN_eq]
  have := Nat.testBit_mod_two_pow dm n m
  rw [h2] at this
  simpa [hm] using this.symm
theorem mkQF_eq (nt dm : Nat) (b : W StF) (r : W Rq) : mkQF nt dm b r = ⟨nt, dm, b.out, r.out⟩ := by cases b; cases r; rfl
theorem cfQ_ok {hs : Hints} {tb : Nat → Option Sp} {P : Program} (htb : TbOk P tb) (hm : P.follows .mixedOrders = true) : ∀ n, CfOk P (cfQ hs tb P n) := by
  intro n
  induction n with
  | zero => intro f vs h k hk; exact Bool.noConfusion hk
  | succ n ih =>
    intro f vs h k hk
    cases htf : tb f with
    | some g =>
      have e : ∀ k', cfQ hs tb P (n + 1) f vs h k' = g vs h k' := fun k' => by
        show Option.rec (motive := fun _ => CallF → CallF) _ _ (tb f) (cfQ hs tb P n) f vs h k' = _
        rw [htf]
      rw [e] at hk
      obtain ⟨v, h', a1, a2⟩ := htb f g htf vs h k hk
      exact ⟨v, h', fun k' => by rw [e, a1], a2⟩
    | none =>
      have e : ∀ k', cfQ hs tb P (n + 1) f vs h k' = QF.rec (motive := fun _ => CallF → List V → H → (V → H → Bool) → Bool) (fun nt dm b r cf args h k => arF args nt dm fun t => b cf t [] h (rK r k)) (qFn hs P f) (cfQ hs tb P n) vs h k' := fun k' => by
        show Option.rec (motive := fun _ => CallF → CallF) _ _ (tb f) (cfQ hs tb P n) f vs h k' = _
        rw [htf]
      rw [e] at hk
      have hbad : ∀ k', QF.rec (motive := fun _ => CallF → List V → H → (V → H → Bool) → Bool) (fun nt dm b r cf args h k => arF args nt dm fun t => b cf t [] h (rK r k)) noQF (cfQ hs tb P n) vs h k' ≠ true := by
        intro k' hk
        have hk' : (arF vs 0 0 fun _ => false) = true := hk
        rw [arF_eq] at hk'
        obtain ⟨hb, hk'⟩ := ifK_ok hk'
        obtain ⟨_, hk'⟩ := ifK_ok hk'
        have hl : vs.length ≤ 0 := Nat.le_of_ble_eq_true (roomQ_ok hb).1
        obtain ⟨t', s1, _⟩ := slots_ok vs 0 F.zero (fun _ => true) (by omega)
        rw [s1] at hk'
        exact Bool.noConfusion hk'
      rcases hhs : hs f with ⟨dm, am⟩
      have eh : qFn hs P f = qFn2 P f dm am := by unfold qFn; rw [hhs]
      rw [eh] at e hk
      cases hfn : P.funcs.toList[f]? with
      | none =>
        have hc : qFn2 P f dm am = noQF := by simp only [qFn2, lg_eq, hfn]
        rw [hc] at hk; exact absurd hk (hbad k)
      | some fn =>
        have hfn' : P.funcs[f]? = some fn := by simpa using hfn
        cases hbd : fn.body with
        | none =>
          have hc : qFn2 P f dm am = noQF := by simp only [qFn2, lg_eq, hfn, hbd]
          rw [hc] at hk; exact absurd hk (hbad k)
        | some body =>
          cases hnm : (fn.name == "runtime.NumGoroutine") with
          | true =>
            have hc : qFn2 P f dm am = noQF := by simp only [qFn2, lg_eq, hfn, hbd, hnm]
            rw [hc] at hk; exact absurd hk (hbad k)
          | false =>
            have hc : qFn2 P f dm am = ⟨fn.ntmps, dm, (sC P fn.ntmps dm am body .zero fun _ => endQ).out, (rtQ (fn.results.toList.map (rsOf P))).out⟩ := by simp only [qFn2, lg_eq, hfn, hbd, hnm]; exact mkQF_eq _ _ _ _
            have e' : ∀ k', cfQ hs tb P (n + 1) f vs h k' = (ifK (roomQ vs.length fn.ntmps dm) fun _ => ifK (Nat.ble vs.length 512) fun _ => slots vs 0 F.zero fun t => (sC P fn.ntmps dm am body .zero fun _ => endQ).out (cfQ hs tb P n) t [] h (retK (fn.results.toList.map (rsOf P)) k')) := by
              intro k'; rw [e, hc, ← arF_eq, ← rK_eq]
            rw [← e, e'] at hk
            obtain ⟨hroom, hk⟩ := ifK_ok hk
            obtain ⟨hr1, hr2⟩ := roomQ_ok hroom
            have hk2 : (ifK (Nat.ble vs.length fn.ntmps) fun _ => ifK (Nat.ble vs.length 512) fun _ => slots vs 0 F.zero fun t => (fun t h k => (sC P fn.ntmps dm am body .zero fun _ => endQ).out (cfQ hs tb P n) t [] h k) t h (retK (fn.results.toList.map (rsOf P)) k)) = true := by rw [hr1]; exact hk
            obtain ⟨h512, hk3⟩ := ifK_ok hk
            have hl2 : vs.length ≤ 512 := Nat.le_of_ble_eq_true h512
            obtain ⟨t0, s1, s2, s3⟩ := slots_ok vs 0 F.zero (fun _ => true) (by omega)
            have hclr : Clr dm t0 := fun m hm hb => by
              rw [s3 m hm (.inr ?_), zero_slot]
              rw [Nat.zero_add]
              refine Nat.le_of_not_lt fun h => ?_
              rw [hr2 m h] at hb; cases hb
            rw [s1] at hk3
            obtain ⟨v, h', b1, b2⟩ := fnRun_ok2 hfn' hbd hnm (run := fun t h k => (sC P fn.ntmps dm am body .zero fun _ => endQ).out (cfQ hs tb P n) t [] h k) (fun t => Clr dm t) (fun t h k hi hk => by
              obtain ⟨x, l', t', e', h', a1, a5, a6, a2, a3, a4⟩ := code_q hm ih fn.ntmps dm am body (fun _ => endQ) .zero t [] h k (LayOk.zero _ _) hi hk
              exact ⟨x, t', h', fun k' => by show (sC P fn.ntmps dm am body .zero fun _ => endQ).out (cfQ hs tb P n) t [] h k' = _; rw [a1]; cases x <;> rfl, a2, a3, fun ρ a w w0 Q A R hQ => a4 ρ a w w0 Q A.of_zero R fun ρ' a' w' l1 A' R' => hQ ρ' a' w' l1 (A'.weak a5 a6) R'⟩) vs h k (fun t ht => by
                have := ht fun y => @decide (y = t0) (Classical.propDecidable _)
                rw [s1] at this
                have := this.symm.trans (@decide_eq_true _ (Classical.propDecidable _) rfl)
                have := @of_decide_eq_true _ (Classical.propDecidable _) this
                subst this; exact hclr) hk2
            exact ⟨v, h', fun k' => by rw [e', hroom, ← b1 k', hr1], b2⟩
/-- WHAT A QUICK RUN SAYS: where the quick evaluator comes to 'true', so does the model's call, whatever the world, and of what was there nothing turns. -/
theorem runsQ {hs : Hints} {tb : Nat → Option Sp} {P : Program} (htb : TbOk P tb) (hm : P.follows .mixedOrders = true) {n : Nat} {f : FuncId} {vs : List V} (h : runQ hs tb P n f vs = true) {args : List Value} (ha : LRel noEmb vs args) (w : World) :
    (callFunc f args.toArray).run P w = .ok (.enter f args.toArray) w ∧ Calls P f args.toArray w fun e w' => e = .returned (.bool true) ∧ Same w w' := by
  obtain ⟨v, h', h1, h2, h3, h4⟩ := cfQ_ok (hs := hs) htb hm n f vs H.zero isTrue h
  have ht : isTrue v h' = true := by
    have := h1 isTrue
    rw [← this]; exact h
  obtain ⟨b, hb, hbt⟩ := vB_ok ht
  obtain ⟨c1, c2⟩ := h4 noEmb w w args ha (zero_rel0 w)
  refine ⟨c1, c2.mono fun e w' he => ?_⟩
  obtain ⟨x, rfl, ρ', _, x2, x3⟩ := he
  rw [hb] at x2
  have x2' : x = .bool b := x2
  rw [x2', hbt]
  exact ⟨rfl, x3.same⟩
/-- a function without parameters that was run once need not be run again -/
theorem pureQ_of {hs : Hints} {tb : Nat → Option Sp} {P : Program} (htb : TbOk P tb) (hm : P.follows .mixedOrders = true) {n : Nat} {f : FuncId} (h : runQ hs tb P n f [] = true) : PureTrue P f :=
  fun w => runsQ htb hm h (args := []) trivial w
end Go.Ev

set_option maxRecDepth 1000000
set_option linter.all false
namespace Go.Proofs.YtiokhkainaodnaaGreatDoor
open Go Go.Ev
def hl : List (Nat × Nat) := [(0, 0), (0, 0), (1, 0), (1427204136562851540033181734646698370175859776, 89301072836097719663999968086696434147523648), (11417964357303733518323441979236898761114128384, 367962659024157001031654828175115013404233728), (182642928951404324602396473357169680343638211600, 112723297995869226888392686570053506238139408), (23378295232529269736355231592702228676274443776016, 14428603926839007686722522341454387880707878928), (10633823965969239871610487939714779136, 42192525328636460879390609420847104), (1298074213391576948150167702307328, 5169644934085609502040018354688), (383123885216472149767947844825458252435903298077189120, 6372925079439580595743146935421556429409012991124480), (11692013098647223345629477335860439881935010922494, 188580862424628979929354073335735136835147399166), (126091200, 84053184), (120, 8), (35993647006611456, 25579042284296192), (32760, 264), (327664, 8720), (140736414744552, 799937684584), (140737484144632, 16759182395384), (1916528, 264208), (1208925783587790659649536, 23628946092951775346688), (73778135637235376128, 36893630431095693312), (120, 8), (21267647932558634962744165276565110782, 1372151321199314683638552702241734654), (65528, 34360), (8727375640576, 1992866166784), (140668770973696, 6390912661504), (89202980794122492565830751811198777278070782, 2880236442053749223899249018631246831419390), (536870896, 67243056), (2016, 224), (16352, 2144), (23384026196954475863417181436546299331845872942976, 3769423022833308344046104148496231945576659287936), (131008, 6464), (134211568, 67617840), (131008, 6464), (248, 8), (131008, 6464), (32256, 13824), (1125891585342464, 110148881447936), (700974289082929629184, 73789228576027396096), (3968, 896), (480, 96), (2247401985277200, 149533727134992), (71481139882761387968, 2305843009222609984), (268435392, 8663744), (17179877248, 17179869568), (2046, 1294), (120, 8), (120, 8), (70368710590416, 9555369526992), (2191507055424, 68820468288), (13839310999779278848, 9223939384888262656), (256, 0), (1082332006272, 549755847296), (2147743968, 4128), (548816289536, 9507328), (8184, 520), (70360187772672, 850409031424), (128992, 33632), (16267264, 3145728), (1073596288, 537919744), (28, 4), (24, 8), (124655684472285240763635210203365376, 10631429057677993706563861676032), (2249601193147392, 32985483058176), (120, 8), (68186364968704, 2204928853248), (16777200, 3551984), (36027697626742784, 22950106207485952), (504, 344), (8, 0), (8795623257088, 4995089470464), (34359722496, 2424307712), (2197725827536288000, 1160521401992491264), (17179737856, 1075068672), (992, 416), (2251793253785600, 1807820467224576), (70368743914752, 35184372620544), (137036284928, 68766794752), (2199015800448, 1143535051904), (3968, 128), (7936, 256), (458876, 65540), (120, 8), (1099378456576, 20401328128), (992, 288), (17592178606016, 9049697553280), (4951759562234059906835545088, 349156499227611897407507456), (19807040610120466224583262208, 8747789647254983639807311872), (8523874240, 1677738048), (844427077614896, 844426008741168), (4092, 532), (248, 72), (248, 72), (248, 72), (36895739758254225408, 36893488422859085824), (140737488355072, 75351053075200), (248, 8), (2040, 72), (8383717439488, 4437239672832), (8598192128, 8591638528), (4294967232, 29573312), (68183654336, 13421789888), (528482304, 109051904), (576461301790800896, 576460752853091328), (262112, 143456), (120259085296, 17179869232), (992, 288), (120, 8), (248, 8), (2084800, 656320), (33554424, 540792), (34359725696, 31421106688), (4194048, 795392), (9218903621597657344, 157635612382365952), (590295810358701457536, 29539239849764061312), (504, 8), (8184, 552), (480, 96), (34353424352, 830800352), (131048, 1056), (248, 72), (248, 72), (496, 176), (1004, 0), (4194296, 128), (511936, 131904), (117440480, 3158112), (24, 0), (2040, 584), (0, 0), (0, 0), (24, 8), (37301460626752751193233157047585340448, 26814831450449302252330291125509152), (70334384504704, 721554508800), (28, 4), (120, 8), (488, 32), (0, 0), (16368, 5040), (1004, 0), (120, 8), (144115185913691696, 5146010771594288), (302229148215346573082544, 66150323871851034509232), (6, 0), (2361147212672163381184, 21329047842124601536), (18014278248562496, 16777280), (0, 0), (134203264, 67633408), (15039725568, 12884901888), (4269793280, 2150170624), (18445884255601925120, 9225625215891511296), (261664, 69664), (24, 8), (2044, 236), (12744, 8), (1008, 48), (480, 96), (58, 0), (248, 72), (4373350450752, 2482491098176), (34634633044480, 17592186454528), (1802232, 1048640), (0, 0), (1012, 0), (4468432435117056, 4186942569841664), (4294942592, 1109790080), (323552, 32), (4294966792, 2278045184), (147573948178744999488, 21333411764666900032), (33607616, 35136), (2040, 72), (4503325756112640, 2288633453216512), (508798183667712, 811849504768), (484, 128), (224, 96), (4564445184, 4563847168), (37462193770231434314767642880, 24768472220403013381377925376), (140737488320512, 37675600185344), (536608760, 532608), (248, 72), (33554399200, 17319468768), (16777184, 329696), (2096992, 1524576), (504, 344), (8, 0), (34353446880, 285642720), (523872, 146528), (4609574956068306816, 78831719811134336), (510121854238080, 72571445863808), (9223372036854775296, 1132167761856976384), (1046780, 278660), (248, 72), (524280, 37464), (1047008, 589920), (24, 8), (1073741760, 835989440), (224, 96), (29360368, 12582992), (248, 8), (2096120, 2112), (1048556, 0), (24, 8), (302083882780654898774016, 57111120787175850901504), (394816, 132160), (356811923171297356495804459315722171940044800, 250075843645122122393717736427655963506343936), (248, 72), (1048544, 457440), (33550816, 4718656), (6442467264, 4294968896), (68719247104, 2304), (549749492128, 138614145440), (8522833408, 4294968320), (524224, 140096), (2147483392, 415295744), (35116713769088, 12300888447104), (2305841832232877440, 1747700452419501440), (561850508443616, 17592187093504), (2096128, 8192), (0, 0), (34225987328, 21474836736), (17179873024, 512), (0, 0), (0, 0), (0, 0), (4064, 160), (17179869168, 11922116592), (131056, 17744), (4160, 64), (21778071481672101585862657094807027965952, 14193069001398954517954005709173217550336), (489056, 144480), (18009983283101184, 50813998592), (34359705344, 475401984), (66191232, 54526336), (0, 0), (549748469760, 284609093632), (67107840, 55929856), (128, 0), (0, 0), (1008, 176), (135292060256, 32), (2147483516864, 1933690044352), (35184372062208, 32212445566976), (24, 8), (2044, 236), (12744, 8), (1984, 192), (259056, 188656), (137435758584, 18543943992), (103079476224, 144384), (1684996666696909001221357344212545314834550076813163108044961218560, 817351431986826762860281758062195507199970667287403720822944169984), (0, 0), (134217312, 42480736), (18012061510401920, 9483367587534720), (131008, 37568), (2251799811420096, 891921209061312), (251872, 1184), (1054867456, 203423744), (176376, 41112), (251684832, 33570816), (103079476224, 144384), (1134907174816833536, 558446359683981312), (562949953413120, 158881323245568), (9223372036854612992, 6572628354146337792), (16106191872, 27648), (5189761557339088924594585446375424, 534948553296695577385981632880640), (1199256700454821708236324864, 618970905086405676179128320), (191572903913723790864238992671637385781844249069748224, 191561942624961666193691345827313459999596006042763264), (524280, 16384), (33554424, 1048576), (56, 24), (515517577344, 278656), (8589631424, 6519001792), (8564637664, 6984387552), (30790578600960, 13194144836608), (8547991544, 270600256), (32640, 1408), (480, 96), (244, 0), (2267541405568, 1086548736), (500, 0), (480, 96), (1073741792, 2098176), (34358640576, 21487428992), (248, 72), (9007160601894656, 3377699720530432), (6442516224, 36096), (69805802814175232, 33776997939591168), (140737488353280, 39720330811392), (144115188075815168, 102652924775325952), (4026547968, 6912), (81090024333644409206184890988544, 8358571145278810738267191781376), (131040, 4256), (18738385944646172081651712, 9671420391975088847585280), (187082913978245912881751328838733603566643413254144, 187072209594689127142276706042879697403424314228736), (56, 24), (1073740992, 408996032), (248, 40), (0, 0), (15552, 4096), (40, 8), (31969272, 16875768), (31969272, 16875768), (2305688252872392064, 1802005071330834816), (4160, 64), (21778071481672101585862657094807027965952, 14193069001398954517954005709173217550336), (22464, 5312), (151115726395197971492368, 117488501960190168409616), (7657774501888, 5381137469440), (288230376151707648, 134321539289034752), (23384, 2632), (32760, 920), (186706878683400960228061181397396142607859474899168, 18999521633750881846626716657243632769779228090592), (4357548938284538567644380135424, 65112995099421890939093516288), (0, 0), (131040, 13920), (56, 8), (2417851639235855419699200, 2417851639229258349621248), (120, 8), (7516192768, 1073741824), (261632, 112128), (2199023247360, 1209247621120), (117443200, 67109504), (1032304, 65536), (68719476608, 40949356928), (2403241815248704896955520, 1020107343261513040295040), (56, 8), (489056, 144480), (523872, 146528), (302231212729583403791488, 53278277429810773996672), (37778931863369478700032, 37778931862957161761792), (32640, 11648), (68719474688, 36919875584), (16368, 400), (2044973024, 811763680), (144114775758962592, 96176571434680224), (6442516224, 36096), (69805802814175232, 33776997939591168), (140737488353280, 39720330811392), (144115188075815168, 102652924775325952), (4026547968, 6912), (81090024333644409206184890988544, 8358571145278810738267191781376), (131040, 4256), (18738385944646172081651712, 9671420391975088847585280), (187082913978245912881751328838733603566643413254144, 187072209594689127142276706042879697403424314228736), (9444732930447535240192, 5469901326877548741632), (0, 0), (0, 0), (65408, 1408), (65408, 1408), (63488, 6144), (56, 8), (8, 8), (248, 24), (248, 72), (4286578688, 4034920448), (2040, 72), (16777184, 8537024), (267911168, 252182528), (37778931863369478700032, 37778931862957161761792), (32640, 11648), (68719474688, 36919875584), (56, 24), (5986310706507378352937256975432493639087468014632960, 3070667086210230647485725714629024290224117410594816), (88, 8), (16376, 104), (16376, 104), (302231400860461127565088, 214556398005141846949664), (267911168, 252182528), (24, 8), (19807040554779108103278821056, 5009788746802060600585224704), (0, 0), (0, 0), (0, 0), (0, 0), (0, 0), (0, 0), (0, 0), (0, 0), (0, 0), (0, 0), (0, 0), (0, 0), (0, 0), (0, 0), (0, 0), (0, 0), (0, 0), (0, 0), (0, 0), (0, 0), (0, 0), (0, 0), (0, 0), (0, 0), (0, 0), (0, 0), (0, 0), (0, 0), (0, 0), (0, 0), (31, 0)]
noncomputable def hs : Hints := fun f => (lgQ hl f).getD (0, 0)
noncomputable def onN (n : Nat) (g : Sp) (r : Nat → Option Sp) : Nat → Option Sp := fun f => Bool.rec (r f) (some g) (Nat.beq f n)
theorem onN_ok {P : Program} {n : Nat} {g : Sp} {r : Nat → Option Sp} (hg : SpOk P n g) (hr : TbOk P r) : TbOk P (onN n g r) := fun f q hf => by
  cases hb : Nat.beq f n with
  | false =>
    have e : onN n g r f = r f := by unfold onN; rw [hb]
    rw [e] at hf
    exact hr f q hf
  | true =>
    have e : onN n g r f = some g := by unfold onN; rw [hb]
    rw [e] at hf
    cases hf
    rw [Nat.eq_of_beq_eq_true hb]
    exact hg
theorem no_ok {P : Program} : TbOk P fun _ => none := fun _ _ hf => by cases hf
noncomputable def tb1 : Nat → Option Sp := onN 193 usedSp (onN 183 (sortedSp 244 9) (onN 50 (copyS 5 201 115) (onN 68 (sortedIS 154 3) (fun _ => none))))
theorem tb1_ok : TbOk Tryz.prog tb1 := onN_ok used_sp (onN_ok sorted_sp (onN_ok copy_sp (onN_ok sortedI_sp (no_ok))))
theorem known_run : runQ hs tb1 Tryz.prog 3000 10 [] = true := by kernel_rfl
theorem known_pure : PureTrue Tryz.prog 10 := pureQ_of tb1_ok (Checked.mixed Tryz.checked) known_run
theorem known_run2 : runQ hs tb1 Tryz.prog 3000 22 [] = true := by kernel_rfl
theorem known_pure2 : PureTrue Tryz.prog 22 := pureQ_of tb1_ok (Checked.mixed Tryz.checked) known_run2
noncomputable def tbE : Nat → Option Sp := onN 22 memoK (onN 10 memoK (tb1))
theorem tbE_ok : TbOk Tryz.prog tbE := onN_ok (memo_ok known_pure2) (onN_ok (memo_ok known_pure) (tb1_ok))
end Go.Proofs.YtiokhkainaodnaaGreatDoor

set_option linter.all false
namespace Go.Proofs.YtiokhkainaodnaaGreatDoor.snapRanges
open Go Go.Ev Go.ChangeShapes Go.WideShapes Go.ChangeAt Go.RowKit
theorem walkOf (hr : ∀ (i0 : Nat) (i1 : Nat) (i2 : Nat) (i3 : Bool) (i4 : Bool), i0 < 10 → i1 < 10 → i2 < 10 → runQ hs tbE Tryz.prog 3000 4 [.r .u8 10 i0 255, .r .u8 10 i1 255, .r .u8 10 i2 255, .b i3, (unB i3 i4)] = true) (a0 : Int) (a1 : Int) (a2 : Int) (a3 : Bool) (a4 : Bool) (w0 : (Lit.int .u8 a0).wf = true) (w1 : (Lit.int .u8 a1).wf = true) (w2 : (Lit.int .u8 a2).wf = true) (w : World) : Calls Tryz.prog 4 #[.int .u8 a0, .int .u8 a1, .int .u8 a2, .bool a3, .bool a4] w fun e w' => e = .returned (.bool true) ∧ Below w.heap.size w w' := by
  obtain ⟨i0, h0, v0⟩ := arg_r w0 10 (by omega)
  obtain ⟨i1, h1, v1⟩ := arg_r w1 10 (by omega)
  obtain ⟨i2, h2, v2⟩ := arg_r w2 10 (by omega)
  have v3 := arg_b a3
  have v4 := arg_u a3 a4
  exact (runsQ tbE_ok (Checked.mixed Tryz.checked) (hr i0 i1 i2 a3 a4 h0 h1 h2) (args := [.int .u8 a0, .int .u8 a1, .int .u8 a2, .bool a3, .bool a4]) ⟨v0, v1, v2, v3, v4, trivial⟩ w).2.mono fun e w' ⟨he, hs⟩ => ⟨he, hs.below⟩
set_option maxRecDepth 100000 in
theorem contractOf (hr : ∀ (i0 : Nat) (i1 : Nat) (i2 : Nat) (i3 : Bool) (i4 : Bool), i0 < 10 → i1 < 10 → i2 < 10 → runQ hs tbE Tryz.prog 3000 4 [.r .u8 10 i0 255, .r .u8 10 i1 255, .r .u8 10 i2 255, .b i3, (unB i3 i4)] = true) (H : Type) (enc : TypeId × Value → H) (W : World) (base : Nat) (args : Array Value) (ds gs : List (DataW H)) (before : List MemPlace)
    (hval : ∀ (j : Nat) t v, Tryz.f4.params[j]? = some t → args[j]? = some v → Value.okWide Tryz.prog W .any base t v)
    (hW : DataW.Whole enc Tryz.prog Tryz.f4.params.toList Rows.snapRangesSpec.vars false W args.toList ds gs before) :
    Calls Tryz.prog 4 args W fun e W' => ∃ v, e = .returned v ∧ Rows.snapRangesSpec.post enc Tryz.prog Tryz.f4 false true false false W args v W' := by
  have hW' := hW
  obtain ⟨p, q, hA0, hV, rfl, hfz, hnd⟩ := hW
  have hA : DataW.TrodAll enc Tryz.prog W 0 (fun _ => true) true Tryz.f4.params.toList args.toList ds p := hA0
  rw [Tryz.params4] at hA hval
  obtain ⟨v0, vs0, d0, ds0, p0, q0, hargs, rfl, rfl, h0, r0⟩ := trodAll_cons hA
  obtain ⟨v1, vs1, d1, ds1, p1, q1, rfl, rfl, rfl, h1, r1⟩ := trodAll_cons r0
  obtain ⟨v2, vs2, d2, ds2, p2, q2, rfl, rfl, rfl, h2, r2⟩ := trodAll_cons r1
  obtain ⟨v3, vs3, d3, ds3, p3, q3, rfl, rfl, rfl, h3, r3⟩ := trodAll_cons r2
  obtain ⟨v4, vs4, d4, ds4, p4, q4, rfl, rfl, rfl, h4, r4⟩ := trodAll_cons r3
  obtain ⟨rfl, rfl, rfl⟩ := trodAll_nil r4
  obtain rfl : args = #[v0, v1, v2, v3, v4] := by cases args; simp_all
  obtain ⟨rfl, rfl⟩ := trodVars_none hV
  obtain ⟨a0, rfl, rfl, rfl, w0⟩ := open_int Tryz.underlying5 (hval 0 5 v0 rfl rfl) h0
  obtain ⟨a1, rfl, rfl, rfl, w1⟩ := open_int Tryz.underlying5 (hval 1 5 v1 rfl rfl) h1
  obtain ⟨a2, rfl, rfl, rfl, w2⟩ := open_int Tryz.underlying5 (hval 2 5 v2 rfl rfl) h2
  obtain ⟨a3, rfl, rfl, rfl⟩ := open_bool Tryz.underlying4 (hval 3 4 v3 rfl rfl) h3
  obtain ⟨a4, rfl, rfl, rfl⟩ := open_bool Tryz.underlying4 (hval 4 4 v4 rfl rfl) h4
  clear hA0
  simp only [List.append_nil] at hW'
  refine (walkOf hr a0 a1 a2 a3 a4 w0 w1 w2 W).mono fun e W' ⟨he, hg⟩ => ?_
  subst he
  exact ⟨_, rfl, post_kept hg (pa := []) (pv := []) hW' (fun _ _ _ => (trodAll_cons_mk (shut_bool Tryz.underlying4 _) trodAll_mk0)) (fun sp _ => (trodAll_cons_mk (shut_int Tryz.underlying5 w0) (trodAll_cons_mk (shut_int Tryz.underlying5 w1) (trodAll_cons_mk (shut_int Tryz.underlying5 w2) (trodAll_cons_mk (shut_bool Tryz.underlying4 _) (trodAll_cons_mk (shut_bool Tryz.underlying4 _) trodAll_mk0)))))) (fun _ _ => rfl) rfl
    (ok_one (by kernel_rfl) rfl (okWide_bool_mk Tryz.underlying4 _))⟩
end Go.Proofs.YtiokhkainaodnaaGreatDoor.snapRanges
