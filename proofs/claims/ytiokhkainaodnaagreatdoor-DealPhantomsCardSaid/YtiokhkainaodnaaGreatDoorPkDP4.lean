/- Texts of ours, without what this claim does not use: EvQc EvQd Plain EvM EvN EvO EvQ EvR EvX Wa Wb EvZ. No condition. -/
import Derived.Test.YtiokhkainaodnaaGreatDoorPkDP3
import Derived.Defers
import Derived.Shelf.SlIter.Nil
import Derived.Shelf.SortM.Plain
import Derived.Shelf.SortM.SortNone
import Derived.Ground.GgzProg
import Derived.Ground.SlgmProg
import Derived.Test.YtiokhkainaodnaaGreatDoorProg
import Derived.ProofKit
set_option linter.all false
namespace Go.Ev
open Go
section
variable [DefL]
def f8Of {α : Type} (g : Nat → α) : F8 α := ⟨g 0, g 1, g 2, g 3, g 4, g 5, g 6, g 7⟩
def ofFun (f : Nat → V) : F := f8Of fun x => f8Of fun y => f8Of fun z => f (64 * x + 8 * y + z)
theorem get8_of {α : Type} (g : Nat → α) {i : Nat} (h : i < 8) : get8 (s8 i) (f8Of g) = g i := by
  match i, h with
  | 0, _ => rfl | 1, _ => rfl | 2, _ => rfl | 3, _ => rfl | 4, _ => rfl | 5, _ => rfl | 6, _ => rfl | 7, _ => rfl
  | n + 8, h => omega
theorem sGet_of (f : Nat → V) {n : Nat} (h : n < 512) : sGet (slOf n) (ofFun f) = f n := by
  show get8 (s8 (n % 8)) (get8 (s8 (n / 8 % 8)) (get8 (s8 (n / 64)) (ofFun f))) = f n
  unfold ofFun
  rw [get8_of _ (show n / 64 < 8 by omega), get8_of _ (show n / 8 % 8 < 8 by omega), get8_of _ (show n % 8 < 8 by omega)]
  congr 1; omega
noncomputable def valB (ls : List Nat) (t : F) (e : E) (n : Nat) : V := match idxN n ls 0 with
  | some j => (e[j]?).getD .u
  | none => oV (compO (.tmp n)) t
noncomputable def valO (ls : List Nat) (t : F) (e : E) (x : Operand) : V := match x with
  | .tmp n => valB ls t e n
  | x => oV (compO x) t
noncomputable def val (l : Lay) (t : F) (e : E) (n : Nat) : V := valO l.ls t e (tgt l.al (.tmp n))
noncomputable def star (l : Lay) (t : F) (e : E) : F := ofFun (val l t e)
theorem idxN_cons (n m : Nat) (l : List Nat) (i : Nat) : idxN n (m :: l) i = match Nat.beq m n with | true => some i | false => idxN n l (i + 1) := by
  show Bool.rec (motive := fun _ => (Nat → Option Nat) → Nat → Option Nat) _ _ (Nat.beq m n) (idxN n l) i = _
  cases Nat.beq m n <;> rfl
theorem idxN_succ (n : Nat) : ∀ (l : List Nat) (i : Nat), idxN n l (i + 1) = (idxN n l i).map Nat.succ := by
  intro l
  induction l with
  | nil => intro i; rfl
  | cons m l ih =>
    intro i
    rw [idxN_cons, idxN_cons]
    cases Nat.beq m n with
    | true => rfl
    | false => exact ih (i + 1)
theorem idxN_some {n : Nat} : ∀ {l : List Nat} {i j : Nat}, idxN n l i = some j → n ∈ l ∧ j < i + l.length := by
  intro l
  induction l with
  | nil => intro i j h; cases h
  | cons m l ih =>
    intro i j h
    rw [idxN_cons] at h
    cases hb : Nat.beq m n with
    | true =>
      rw [hb] at h
      cases h
      have : m = n := Nat.eq_of_beq_eq_true hb
      exact ⟨by simp [this], by simp⟩
    | false =>
      rw [hb] at h
      obtain ⟨h1, h2⟩ := ih h
      exact ⟨by simp [h1], by simp; omega⟩
theorem lookA_cons (n : Nat) (p : Nat × Operand) (l : Al) : lookA n (p :: l) = match Nat.beq p.1 n with | true => some p.2 | false => lookA n l := by
  obtain ⟨m, y⟩ := p
  show Bool.rec (motive := fun _ => Operand → Option Operand → Option Operand) _ _ (Nat.beq m n) y (lookA n l) = _
  cases Nat.beq m n <;> rfl
theorem lookA_some {n : Nat} {y : Operand} : ∀ {l : Al}, lookA n l = some y → (n, y) ∈ l := by
  intro l
  induction l with
  | nil => intro h; cases h
  | cons p l ih =>
    intro h
    rw [lookA_cons] at h
    cases hb : Nat.beq p.1 n with
    | true =>
      rw [hb] at h
      cases h
      have : p.1 = n := Nat.eq_of_beq_eq_true hb
      obtain ⟨m, y⟩ := p
      cases this
      simp
    | false => rw [hb] at h; simp [ih h]
theorem tgt_tmp (al : Al) (n : Nat) : tgt al (.tmp n) = (lookA n al).getD (.tmp n) := by
  show Option.rec (motive := fun _ => Operand) _ _ (lookA n al) = _
  cases lookA n al <;> rfl
theorem bitN_eq (m n : Nat) : bitN m n = m.testBit n := by
  unfold bitN
  show Nat.beq (m / 2 ^ n % 2) 1 = _
  rw [Nat.testBit_eq_decide_div_mod_eq]
  rcases Nat.mod_two_eq_zero_or_one (m / 2 ^ n) with h | h <;> rw [h] <;> rfl
theorem bitN_lor (a b n : Nat) : bitN (Nat.lor a b) n = (bitN a n || bitN b n) := by
  rw [bitN_eq, bitN_eq, bitN_eq]; exact Nat.testBit_or a b n
theorem bitN_pow (d n : Nat) : bitN (Nat.pow 2 d) n = decide (d = n) := by
  rw [bitN_eq]; exact Nat.testBit_two_pow
theorem bitN_zero (n : Nat) : bitN 0 n = false := by rw [bitN_eq]; exact Nat.zero_testBit n
structure LayOk (dm : Nat) (l : Lay) (e : E) : Prop where
  len : l.ls.length ≤ e.length
  hand : ∀ n ∈ l.ls, bitN dm n = true ∧ bitN l.um n = true ∧ n < 512
  name : ∀ n y, (n, y) ∈ l.al → bitN dm n = true ∧ bitN l.um n = true ∧ n < 512 ∧ ∀ m, y = .tmp m → bitN l.tm m = true
def Clr (dm : Nat) (t : F) : Prop := ∀ n, n < 512 → bitN dm n = true → sGet (slOf n) t = .u
theorem LayOk.zero (dm : Nat) (e : E) : LayOk dm .zero e := ⟨Nat.zero_le _, fun n h => (by cases h), fun n y h => (by cases h)⟩
theorem LayOk.push {dm d : Nat} {l : Lay} {e : E} (v : V) (h : LayOk dm l e) (hd : bitN dm d = true) (h5 : d < 512) : LayOk dm (l.push d) (v :: e) := by
  refine ⟨by simpa [Lay.push] using h.len, fun n hn => ?_, fun n y hy => ?_⟩
  · rcases List.mem_cons.1 hn with rfl | hn
    · exact ⟨hd, by show bitN (Nat.lor _ _) _ = true; rw [bitN_lor, bitN_pow]; simp, h5⟩
    · obtain ⟨a, b, c⟩ := h.hand n hn
      exact ⟨a, by show bitN (Nat.lor _ _) _ = true; rw [bitN_lor, b]; rfl, c⟩
  · obtain ⟨a, b, c, d⟩ := h.name n y hy
    exact ⟨a, by show bitN (Nat.lor _ _) _ = true; rw [bitN_lor, b]; rfl, c, d⟩
theorem LayOk.named {dm d : Nat} {l : Lay} {e : E} (y : Operand) (h : LayOk dm l e) (hd : bitN dm d = true) (h5 : d < 512) : LayOk dm (l.name d y) e := by
  refine ⟨h.len, fun n hn => ?_, fun n z hz => ?_⟩
  · obtain ⟨a, b, c⟩ := h.hand n hn
    exact ⟨a, by show bitN (Nat.lor _ _) _ = true; rw [bitN_lor, b]; rfl, c⟩
  · rcases List.mem_cons.1 hz with hz | hz
    · cases hz
      exact ⟨hd, by show bitN (Nat.lor _ _) _ = true; rw [bitN_lor, bitN_pow]; simp, h5, fun m hm => by
        show bitN (Nat.lor _ _) _ = true; rw [bitN_lor, hm]; show (_ || bitN (Nat.pow 2 m) m) = true; rw [bitN_pow]; simp⟩
    · obtain ⟨a, b, c, d⟩ := h.name n z hz
      exact ⟨a, by show bitN (Nat.lor _ _) _ = true; rw [bitN_lor, b]; rfl, c, fun m hm => by show bitN (Nat.lor _ _) _ = true; rw [bitN_lor, d m hm]; rfl⟩
theorem LayOk.fresh {dm d : Nat} {l : Lay} {e : E} (h : LayOk dm l e) (hu : bitN l.um d = false ∨ bitN dm d = false) : lookA d l.al = none ∧ idxN d l.ls 0 = none := by
  constructor
  · cases hl : lookA d l.al with
    | none => rfl
    | some y =>
      obtain ⟨a, b, _⟩ := h.name _ _ (lookA_some hl)
      rcases hu with hu | hu
      · rw [b] at hu; cases hu
      · rw [a] at hu; cases hu
  · cases hl : idxN d l.ls 0 with
    | none => rfl
    | some j =>
      obtain ⟨a, b, _⟩ := h.hand _ (idxN_some hl).1
      rcases hu with hu | hu
      · rw [b] at hu; cases hu
      · rw [a] at hu; cases hu
/-- what another name or the slot itself stands for is not the slot that is written -/
theorem LayOk.tgt_ne {dm d n m : Nat} {l : Lay} {e : E} (h : LayOk dm l e) (ht : bitN l.tm d = false) (hn : n ≠ d) (hm : tgt l.al (.tmp n) = .tmp m) : m ≠ d := by
  rw [tgt_tmp] at hm
  cases hl : lookA n l.al with
  | none => rw [hl] at hm; cases hm; exact hn
  | some y =>
    rw [hl] at hm
    have := (h.name _ _ (lookA_some hl)).2.2.2 m hm
    intro e; rw [e, ht] at this; cases this
theorem oV_tmp (n : Nat) (t : F) (h : n < 512) : oV (compO (.tmp n)) t = sGet (slOf n) t := by
  show oV (match Nat.ble (n + 1) 512 with | true => .t (slOf n) | false => .c .u) t = _
  rw [show Nat.ble (n + 1) 512 = true from Nat.ble_eq_true_of_le h]; rfl
theorem oV_big (n : Nat) (t : F) (h : ¬ n < 512) : oV (compO (.tmp n)) t = .u := by
  show oV (match Nat.ble (n + 1) 512 with | true => .t (slOf n) | false => .c .u) t = _
  rw [show Nat.ble (n + 1) 512 = false by cases hb : Nat.ble (n + 1) 512 with | false => rfl | true => exact absurd (Nat.le_of_ble_eq_true hb) (by omega)]; rfl
theorem val_push {dm d : Nat} {l : Lay} {t : F} {e : E} (v : V) (h : LayOk dm l e) (hu : bitN l.um d = false) (ht : bitN l.tm d = false) (n : Nat) : val (l.push d) t (v :: e) n = if n = d then v else val l t e n := by
  show valO (d :: l.ls) t (v :: e) (tgt l.al (.tmp n)) = _
  by_cases hn : n = d
  · subst hn
    rw [if_pos rfl, tgt_tmp, (h.fresh (.inl hu)).1]
    show (match idxN n (n :: l.ls) 0 with | some j => ((v :: e)[j]?).getD .u | none => oV (compO (.tmp n)) t) = v
    rw [idxN_cons, show Nat.beq n n = true by simp]
    rfl
  · rw [if_neg hn]
    show valO (d :: l.ls) t (v :: e) (tgt l.al (.tmp n)) = valO l.ls t e (tgt l.al (.tmp n))
    cases hy : tgt l.al (.tmp n) with
    | tmp m =>
      have hm := h.tgt_ne ht hn hy
      show (match idxN m (d :: l.ls) 0 with | some j => ((v :: e)[j]?).getD .u | none => oV (compO (.tmp m)) t) = match idxN m l.ls 0 with | some j => (e[j]?).getD .u | none => oV (compO (.tmp m)) t
      rw [idxN_cons, show Nat.beq d m = false by cases hb : Nat.beq d m with | false => rfl | true => exact absurd (Nat.eq_of_beq_eq_true hb).symm hm]
      simp only []
      rw [idxN_succ]
      cases idxN m l.ls 0 <;> rfl
    | const c => rfl
    | global g => rfl
    | func f => rfl
theorem val_frame {dm d : Nat} {l : Lay} {t t' : F} {e : E} {v : V} (h : LayOk dm l e) (hd : bitN dm d = false) (ht : bitN l.tm d = false) (h5 : d < 512) (hv : sGet (slOf d) t' = v) (ho : ∀ s, s ≠ slOf d → sGet s t' = sGet s t) (n : Nat) :
    val l t' e n = if n = d then v else val l t e n := by
  by_cases hn : n = d
  · subst hn
    rw [if_pos rfl]
    show valO l.ls t' e (tgt l.al (.tmp n)) = v
    rw [tgt_tmp, (h.fresh (.inr hd)).1]
    show (match idxN n l.ls 0 with | some j => (e[j]?).getD .u | none => oV (compO (.tmp n)) t') = v
    rw [(h.fresh (.inr hd)).2, ← hv]
    exact oV_tmp n t' h5
  · rw [if_neg hn]
    show valO l.ls t' e (tgt l.al (.tmp n)) = valO l.ls t e (tgt l.al (.tmp n))
    cases hy : tgt l.al (.tmp n) with
    | tmp m =>
      have hm := h.tgt_ne ht hn hy
      show (match idxN m l.ls 0 with | some j => (e[j]?).getD .u | none => oV (compO (.tmp m)) t') = match idxN m l.ls 0 with | some j => (e[j]?).getD .u | none => oV (compO (.tmp m)) t
      cases idxN m l.ls 0 with
      | some j => rfl
      | none =>
        show oV (compO (.tmp m)) t' = oV (compO (.tmp m)) t
        by_cases hm5 : m < 512
        · rw [oV_tmp m _ hm5, oV_tmp m _ hm5]; exact ho _ fun h => hm (slOf_inj hm5 h5 h)
        · rw [oV_big m _ hm5, oV_big m _ hm5]
    | const c => rfl
    | global g => rfl
    | func f => rfl
theorem val_name {d : Nat} {l : Lay} {t : F} {e : E} (y : Operand) (n : Nat) : val (l.name d y) t e n = if n = d then valO l.ls t e y else val l t e n := by
  show valO l.ls t e (tgt ((d, y) :: l.al) (.tmp n)) = _
  rw [tgt_tmp, lookA_cons]
  by_cases hn : n = d
  · subst hn
    rw [if_pos rfl, show Nat.beq (n, y).1 n = true by simp]; rfl
  · rw [if_neg hn, show Nat.beq (d, y).1 n = false by cases hb : Nat.beq d n with | false => rfl | true => exact absurd (Nat.eq_of_beq_eq_true hb).symm hn]
    show valO l.ls t e ((lookA n l.al).getD (.tmp n)) = _
    rw [← tgt_tmp]; rfl
/-- what an operand is there -/
theorem valO_eq {dm : Nat} {l : Lay} {t : F} {e : E} (h : LayOk dm l e) (x : Operand) : oV (compO x) (star l t e) = valO l.ls t e (tgt l.al x) := by
  cases x with
  | tmp n =>
    by_cases h5 : n < 512
    · rw [oV_tmp n _ h5]; exact sGet_of _ h5
    · rw [oV_big n _ h5, tgt_tmp]
      have h1 : lookA n l.al = none := by
        cases hl : lookA n l.al with
        | none => rfl
        | some y => exact absurd (h.name _ _ (lookA_some hl)).2.2.1 h5
      have h2 : idxN n l.ls 0 = none := by
        cases hl : idxN n l.ls 0 with
        | none => rfl
        | some y => exact absurd (h.hand _ (idxN_some hl).1).2.2 h5
      rw [h1]
      show V.u = match idxN n l.ls 0 with | some j => (e[j]?).getD .u | none => oV (compO (.tmp n)) t
      rw [h2]
      exact (oV_big n t h5).symm
  | const v => rfl
  | global g => rfl
  | func f => rfl
theorem lQ_out : ∀ (j : Nat) (t : F) (e : E) (k : V → Bool), j < e.length → (lQ j).out t e k = k ((e[j]?).getD .u) := by
  intro j
  induction j with
  | zero =>
    intro t e k h
    cases e with
    | nil => exact absurd h (by simp)
    | cons v e => rfl
  | succ j ih =>
    intro t e k h
    show (W.on (lQ j) fun m => ⟨fun t e k => List.rec (motive := fun _ => F → (V → Bool) → Bool) (fun _ _ => false) (fun _ e _ t k => m t e k) e t k⟩).out t e k = _
    rw [W.on_out]
    cases e with
    | nil => exact absurd h (by simp)
    | cons v e =>
      show (lQ j).out t e k = _
      rw [ih t e k (by simpa using h), List.getElem?_cons_succ]
theorem rQ_sees {dm : Nat} {l : Lay} {t : F} {e : E} (h : LayOk dm l e) (x : Operand) : Sees t e (star l t e) (rQ l.ls l.al x) (compO x) := by
  intro k
  rw [valO_eq h]
  show (bQ l.ls (tgt l.al x)).out t e k = _
  cases tgt l.al x with
  | tmp n =>
    show (Option.rec (motive := fun _ => W Gq) (oQ (compO (.tmp n))) lQ (idxN n l.ls 0)).out t e k = k (match idxN n l.ls 0 with | some j => (e[j]?).getD .u | none => oV (compO (.tmp n)) t)
    cases hi : idxN n l.ls 0 with
    | none => exact oQ_out _ t e k
    | some j => exact lQ_out j t e k (by have := (idxN_some hi).2; have := h.len; omega)
  | const v => exact oQ_out (compO (.const v)) t e k
  | global g => exact oQ_out (compO (.global g)) t e k
  | func f => exact oQ_out (compO (.func f)) t e k
theorem rQ_zero (t : F) (e : E) (x : Operand) : Sees t e t (rQ [] [] x) (compO x) := by
  intro k
  cases x with
  | tmp n => exact oQ_out (compO (.tmp n)) t e k
  | const v => exact oQ_out (compO (.const v)) t e k
  | global g => exact oQ_out (compO (.global g)) t e k
  | func f => exact oQ_out (compO (.func f)) t e k
theorem ARel.star_put {ρ : Emb} {nt d : Nat} {l l' : Lay} {t t' : F} {e e' : E} {a : Act} {v : V} {x : Value} (A : ARel ρ nt (star l t e) a) (hv : VRel ρ v x) (hd : d < nt) (h : ∀ n, val l' t' e' n = if n = d then v else val l t e n) :
    ARel ρ nt (star l' t' e') (a.put (some d) x) := by
  refine ⟨A.defers, by simp [Act.put, A.size], fun n hn => ?_⟩
  show VRel ρ (sGet (slOf n) (ofFun (val l' t' e'))) _
  rw [sGet_of _ hn, h n]
  by_cases hnd : n = d
  · subst hnd
    rw [if_pos rfl]
    have : ((a.put (some n) x).tmps.getD n undef) = x := by simp [Act.put, A.size, hd]
    rw [this]; exact hv
  · rw [if_neg hnd]
    have : ((a.put (some d) x).tmps.getD n undef) = a.tmps.getD n undef := by
      simp only [Act.put, Array.getD_eq_getD_getElem?, Array.getElem?_setIfInBounds]
      rw [if_neg (fun e => hnd e.symm)]
    rw [this]
    have := A.slot n hn
    have e2 : sGet (slOf n) (star l t e) = val l t e n := sGet_of _ hn
    rwa [e2] at this
theorem ARel.weak {ρ : Emb} {nt dm : Nat} {l : Lay} {t : F} {e : E} {a : Act} (A : ARel ρ nt (star l t e) a) (h : LayOk dm l e) (hi : Clr dm t) : ARel ρ nt t a := by
  refine ⟨A.defers, A.size, fun n hn => ?_⟩
  cases hb : bitN dm n with
  | true => rw [hi n hn hb]; trivial
  | false =>
    have := A.slot n hn
    have e2 : sGet (slOf n) (star l t e) = val l t e n := sGet_of _ hn
    rw [e2] at this
    have e3 : val l t e n = sGet (slOf n) t := by
      show valO l.ls t e (tgt l.al (.tmp n)) = _
      rw [tgt_tmp, (h.fresh (.inr hb)).1]
      show (match idxN n l.ls 0 with | some j => (e[j]?).getD .u | none => oV (compO (.tmp n)) t) = _
      rw [(h.fresh (.inr hb)).2]
      exact oV_tmp n t hn
    rwa [e3] at this
theorem ARel.of_zero {ρ : Emb} {nt : Nat} {t : F} {e : E} {a : Act} (A : ARel ρ nt t a) : ARel ρ nt (star .zero t e) a := by
  refine ⟨A.defers, A.size, fun n hn => ?_⟩
  have e2 : sGet (slOf n) (star .zero t e) = val .zero t e n := sGet_of _ hn
  rw [e2]
  have e3 : val .zero t e n = sGet (slOf n) t := oV_tmp n t hn
  rw [e3]; exact A.slot n hn
theorem ARel.zero {ρ : Emb} {nt dm : Nat} {l : Lay} {t : F} {e e' : E} {a : Act} (A : ARel ρ nt (star l t e) a) (h : LayOk dm l e) (hi : Clr dm t) : ARel ρ nt (star .zero t e') a := (A.weak h hi).of_zero
/-- what a run of an operation says -/
def RunFact (P : Program) (nt : Nat) (o : Oper) (l : Lay) (t : F) (e : E) (r : Rv) : Prop := ∀ cf, CfOk P cf → ∀ h k, r cf t e h k = true →
  ∃ v h', (∀ k', r cf t e h k' = k' v h') ∧ KeepF h h' ∧ B.val h.next ≤ B.val h'.next ∧
    ∀ ρ a w w0, ARel ρ nt (star l t e) a → ARel ρ nt t a → HRel ρ h w w0 → ∃ nx w1, (execOp a.eval o).run P w = .ok nx w1 ∧ NxOk P nx w1 (Done h.floor ρ w0 v h')
theorem qRun_fact {P : Program} {nt dm : Nat} {o : Oper} {l : Lay} {t : F} {e : E} (hl : LayOk dm l e) : RunFact P nt o l t e (qRun P (rQ l.ls l.al) o.op).out := by
  intro cf hcf h k hk
  unfold qRun at hk ⊢
  cases hq : qOp P (rQ l.ls l.al) o.op with
  | some r =>
    rw [hq] at hk
    have hs : SameR t e (star l t e) r (compOp P o.op) := qOp_same (fun x => rQ_sees hl x) hq
    simp only [] at hk ⊢
    rw [hs] at hk
    obtain ⟨v, h', a1, a2, a3, a4, _⟩ := compOp_ok P o cf hcf (star l t e) h k hk
    exact ⟨v, h', fun k' => by rw [hs, a1], a2, a3, fun ρ a w w0 A _ R => a4 ρ a w w0 (A.ops _) R⟩
  | none =>
    rw [hq] at hk
    simp only [] at hk ⊢
    have e0 : ∀ k', (oldRv (compOp P o.op)).out cf t e h k' = runK (compOp P o.op) cf t h k' := fun k' => by
      cases compOp P o.op; rfl
    rw [e0] at hk
    obtain ⟨v, h', a1, a2, a3, a4, _⟩ := compOp_ok P o cf hcf t h k hk
    exact ⟨v, h', fun k' => by rw [e0, a1], a2, a3, fun ρ a w w0 _ A R => a4 ρ a w w0 (A.ops _) R⟩
/-- a row that draws looks into the frame alone -/
theorem qRun_frame (P : Program) (op : Op) (t : F) (e : E) (cf : CallF) (h : H) (k : V → H → Bool) : (qRun P (rQ [] []) op).out cf t e h k = runK (compOp P op) cf t h k := by
  unfold qRun
  cases hq : qOp P (rQ [] []) op with
  | some r => exact qOp_same (fun x => rQ_zero t e x) hq cf h k
  | none =>
    show (oldRv (compOp P op)).out cf t e h k = _
    cases compOp P op; rfl
noncomputable def goB (hand : Bool) (p : Pq) (r : Rv) (nx : StF) (b : Bool) : StF := match hand with
  | true => gH b r nx
  | false => gF b p r nx
noncomputable def fin (hand : Bool) (p : Pq) (nx : StF) (v : V) (cf : CallF) (t : F) (e : E) (h : H) (k : K) : Bool := match hand with
  | true => nx cf t (v :: e) h k
  | false => p v t fun t => nx cf t e h k
theorem gdQ_eq {nt dm : Nat} {l : Lay} {t : F} {e : E} (hl : LayOk dm l e) (hand : Bool) (p : Pq) (r : Rv) (nx : StF) (ops : List Oper) (gd : Option (Nat × Bool)) (cf : CallF) (h : H) (k : K) :
    (gdQ nt l.ls l.al hand p r nx ops gd).out cf t e h k = guardK (compG nt ops gd) (star l t e) fun b => goB hand p r nx b cf t e h k := by
  cases gd with
  | none => cases hand <;> rfl
  | some jw =>
    obtain ⟨j, w⟩ := jw
    cases hj : ops[j]? with
    | none =>
      have e0 : compG nt ops (some (j, w)) = .bad := by simp only [compG, hj]
      have e1 : gdQ nt l.ls l.al hand p r nx ops (some (j, w)) = badQ := by simp only [gdQ, slG, hj]
      rw [e0, e1]; rfl
    | some oj =>
      obtain ⟨dst, e1, e2, e3, e4, e5⟩ := oj
      cases dst with
      | none =>
        have e0 : compG nt ops (some (j, w)) = .bad := by simp only [compG, hj]
        have e1 : gdQ nt l.ls l.al hand p r nx ops (some (j, w)) = badQ := by simp only [gdQ, slG, hj]
        rw [e0, e1]; rfl
      | some d =>
        cases hb : (Nat.ble (Nat.succ d) nt && Nat.ble (Nat.succ d) 512) with
        | false =>
          have e0 : compG nt ops (some (j, w)) = .bad := by simp only [compG, hj, hb]
          have e1 : gdQ nt l.ls l.al hand p r nx ops (some (j, w)) = badQ := by simp only [gdQ, slG, hj, hb]
          rw [e0, e1]; rfl
        | true =>
          have h5 : d < 512 := by
            simp only [Bool.and_eq_true] at hb
            exact Nat.le_of_ble_eq_true hb.2
          have e0 : compG nt ops (some (j, w)) = .some (slOf d) w := by simp only [compG, hj, hb]
          have e1 : gdQ nt l.ls l.al hand p r nx ops (some (j, w)) = W.on (rQ l.ls l.al (.tmp d)) fun g => goG hand w p r nx g := by simp only [gdQ, slG, hj, hb]
          rw [e0, e1, W.on_out]
          have hs := rQ_sees (t := t) (e := e) hl (.tmp d)
          have : (rQ l.ls l.al (.tmp d)).out t e = fun k => k (sGet (slOf d) (star l t e)) := by
            funext k; rw [hs k, oV_tmp d _ h5]
          cases hand with
          | true =>
            show (rQ l.ls l.al (.tmp d)).out t e (fun v => vG v w fun b => gH b r nx cf t e h k) = vG (sGet (slOf d) (star l t e)) w _
            rw [this]; rfl
          | false =>
            show (rQ l.ls l.al (.tmp d)).out t e (fun v => vG v w fun b => gF b p r nx cf t e h k) = vG (sGet (slOf d) (star l t e)) w _
            rw [this]; rfl
theorem op_v {P : Program} {cf : CallF} (hcf : CfOk P cf) {nt dm : Nat} {ops : Array Oper} {o : Oper} {l : Lay} {t : F} {e : E} {h : H} {hand : Bool} {p : Pq} {nx : StF} {r : Rv} {k : K} (hl : LayOk dm l e) (hr : RunFact P nt o l t e r)
    (hk : (gdQ nt l.ls l.al hand p r nx ops.toList o.guard).out cf t e h k = true) :
    ∃ v h', (∀ k', (gdQ nt l.ls l.al hand p r nx ops.toList o.guard).out cf t e h k' = fin hand p nx v cf t e h' k') ∧ KeepF h h' ∧ B.val h.next ≤ B.val h'.next ∧
      ∀ ρ a w w0 (next : Act → World → Prop) (Q : Exit → Act → World → Prop), ARel ρ nt (star l t e) a → ARel ρ nt t a → HRel ρ h w w0 → (∀ ρ' x w', Ext h.floor ρ ρ' → VRel ρ' v x → HRel ρ' h' w' w0 → next (a.put o.dst x) w') →
        if Region.wanted o (yielded ops a.tmps) then o.wp P a w next Q else next (a.put o.dst undef) w := by
  rw [gdQ_eq hl] at hk
  obtain ⟨b, g1, g2⟩ := guard_ok hk
  rw [g1] at hk
  cases b with
  | false =>
    have e2 : ∀ k', goB hand p r nx false cf t e h k' = fin hand p nx (.tu []) cf t e h k' := fun k' => by cases hand <;> rfl
    refine ⟨.tu [], h, fun k' => by rw [gdQ_eq hl, g1, e2], KeepF.refl h, Nat.le_refl _, fun ρ a w w0 next Q A _ R hn => ?_⟩
    rw [g2 ρ a A.size (fun d _ hd => A.slot d hd)]
    simp only [Bool.false_eq_true, if_false]
    exact hn ρ undef w (Ext.refl _ ρ) ⟨#[], rfl, trivial⟩ R
  | true =>
    have e2 : ∀ k', goB hand p r nx true cf t e h k' = r cf t e h fun v h => fin hand p nx v cf t e h k' := fun k' => by cases hand <;> rfl
    rw [e2] at hk
    obtain ⟨v, h', r1, r2, r3, r4⟩ := hr cf hcf h _ hk
    refine ⟨v, h', fun k' => by rw [gdQ_eq hl, g1, e2, r1], r2, r3, fun ρ a w w0 next Q A At R hn => ?_⟩
    rw [g2 ρ a A.size (fun d _ hd => A.slot d hd)]
    simp only [if_true]
    obtain ⟨nx1, w1, x1, x2⟩ := r4 ρ a w w0 A At R
    unfold Oper.wp
    rw [x1]
    exact x2.upon fun x w' ⟨ρ', y1, y2, y3⟩ => hn ρ' x w' y1 y2 y3
theorem wpOps_step {P : Program} {ops : Array Oper} {o : Oper} {n m : Nat} {tl : List Nat} {a : Act} {w : World} {Q : Exit → Act → World → Prop} (hn : ops[n]? = some o)
    (h : if Region.wanted o (yielded ops a.tmps) then o.wp P a w (wpOps P ops Q (List.range' (n + 1) m ++ tl)) Q else wpOps P ops Q (List.range' (n + 1) m ++ tl) (a.put o.dst undef) w) : wpOps P ops Q (List.range' n (m + 1) ++ tl) a w := by
  rw [List.range'_succ, List.cons_append, wpOps_cons]
  unfold wpOp
  simp only [hn]
  split
  · rename_i hw; simp only [hw, if_true] at h; exact .inl h
  · rename_i hw; simp only [hw] at h; exact h
theorem chV_cons (P : Program) (nt dm am : Nat) (all : List Oper) (nx : Lay → W StF) (dst : Option Tmp) (op : Op) (a : TypeId) (b : String) (e : Array Edge) (gd : Option (Nat × Bool)) (r : List Oper) (l : Lay) :
    chV P nt dm am all nx (⟨dst, op, a, b, e, gd⟩ :: r) l = match okDst nt dm l dst with
      | false => badQ
      | true => match nameOf am dst op, gd with
        | some (d, x), none => match bitN dm d with
          | true => chV P nt dm am all nx r (l.name d (tgt l.al x))
          | false => badQ
        | _, gd => match handB dm dst with
          | true => W.on (qRun P (rQ l.ls l.al) op) fun r' => W.on (chV P nt dm am all nx r (pushO dst l)) fun n => gdQ nt l.ls l.al true (fun _ _ _ => false) r' n all gd
          | false => W.on (dQ (dOf nt dst)) fun p => W.on (qRun P (rQ l.ls l.al) op) fun r' => W.on (chV P nt dm am all nx r l) fun n => gdQ nt l.ls l.al false p r' n all gd := by
  have e0 : ∃ ih : Ih, (∀ l, ih ⟨P, nt, dm, am, all, nx⟩ l = chV P nt dm am all nx r l) ∧ chV P nt dm am all nx (⟨dst, op, a, b, e, gd⟩ :: r) l = chS P nt dm am all nx dst op gd ih l := ⟨_, fun _ => rfl, rfl⟩
  obtain ⟨ih, h1, h2⟩ := e0
  have hR : ∀ gd, chR P nt dm am all nx dst op gd ih l = match handB dm dst with
      | true => W.on (qRun P (rQ l.ls l.al) op) fun r' => W.on (chV P nt dm am all nx r (pushO dst l)) fun n => gdQ nt l.ls l.al true (fun _ _ _ => false) r' n all gd
      | false => W.on (dQ (dOf nt dst)) fun p => W.on (qRun P (rQ l.ls l.al) op) fun r' => W.on (chV P nt dm am all nx r l) fun n => gdQ nt l.ls l.al false p r' n all gd := by
    intro gd
    unfold chR
    simp only [← h1]
    cases handB dm dst <;> rfl
  rw [h2]
  unfold chS
  cases okDst nt dm l dst with
  | false => rfl
  | true =>
    show chN P nt dm am all nx dst op gd ih l = _
    unfold chN
    cases nameOf am dst op with
    | none => show chR P nt dm am all nx dst op gd ih l = _; rw [hR]
    | some dx =>
      obtain ⟨d, x⟩ := dx
      cases gd with
      | some g => show chR P nt dm am all nx dst op (some g) ih l = _; rw [hR]
      | none =>
        show chA P nt dm am all nx d x ih l = _
        unfold chA
        simp only [← h1]
        cases bitN dm d <;> rfl
theorem chV_ok {P : Program} {cf : CallF} (hcf : CfOk P cf) {nt dm am : Nat} {ops : Array Oper} {nx : Lay → W StF} {s : List Oper} {tl : List Nat} : ∀ (r : List Oper) (n : Nat), ops.toList.drop n = r ++ s → ∀ (l : Lay) (t : F) (e : E) (h : H) (k : K), LayOk dm l e → Clr dm t →
    (chV P nt dm am ops.toList nx r l).out cf t e h k = true →
    ∃ l' t' e' h', (∀ k', (chV P nt dm am ops.toList nx r l).out cf t e h k' = (nx l').out cf t' e' h' k') ∧ LayOk dm l' e' ∧ Clr dm t' ∧ KeepF h h' ∧ B.val h.next ≤ B.val h'.next ∧
      ∀ ρ a w w0 (Q : Exit → Act → World → Prop), ARel ρ nt (star l t e) a → HRel ρ h w w0 → (∀ ρ' a' w', Ext h.floor ρ ρ' → ARel ρ' nt (star l' t' e') a' → HRel ρ' h' w' w0 → wpOps P ops Q tl a' w') →
        wpOps P ops Q (List.range' n r.length ++ tl) a w := by
  intro r
  induction r with
  | nil => intro n hd l t e h k hl hi hk; exact ⟨l, t, e, h, fun _ => rfl, hl, hi, KeepF.refl h, Nat.le_refl _, fun ρ a w w0 Q A R hq => hq ρ a w (Ext.refl _ ρ) A R⟩
  | cons o r ih =>
    intro n hd l t e h k hl hi hk
    have hn : ops[n]? = some o := by
      have : ops.toList[n]? = some o := by
        have := congrArg (fun l => l[0]?) hd
        simpa using this
      simpa using this
    have hd' : ops.toList.drop (n + 1) = r ++ s := by
      rw [← List.drop_drop, hd]; rfl
    obtain ⟨dst, op, c1, c2, c3, gd⟩ := o
    rw [List.length_cons]
    cases hok : okDst nt dm l dst with
    | false =>
      have e0 : chV P nt dm am ops.toList nx (⟨dst, op, c1, c2, c3, gd⟩ :: r) l = badQ := by simp only [chV_cons, hok]
      rw [e0] at hk; exact Bool.noConfusion hk
    | true =>
      have hdst : ∀ d, dst = some d → d < nt ∧ d < 512 ∧ bitN l.tm d = false ∧ (bitN dm d = true → bitN l.um d = false) := by
        intro d hd
        subst hd
        simp only [okDst, okSl, Bool.and_eq_true, Bool.or_eq_true, Bool.not_eq_true'] at hok
        obtain ⟨⟨b1, b2⟩, b3, b4⟩ := hok
        refine ⟨Nat.le_of_ble_eq_true b1, Nat.le_of_ble_eq_true b2, b3, fun h => ?_⟩
        rcases b4 with b4 | b4
        · rw [h] at b4; cases b4
        · exact b4
      -- an operation that is run
      have hrun : (chV P nt dm am ops.toList nx (⟨dst, op, c1, c2, c3, gd⟩ :: r) l = match handB dm dst with
          | true => W.on (qRun P (rQ l.ls l.al) op) fun r' => W.on (chV P nt dm am ops.toList nx r (pushO dst l)) fun n => gdQ nt l.ls l.al true (fun _ _ _ => false) r' n ops.toList gd
          | false => W.on (dQ (dOf nt dst)) fun p => W.on (qRun P (rQ l.ls l.al) op) fun r' => W.on (chV P nt dm am ops.toList nx r l) fun n => gdQ nt l.ls l.al false p r' n ops.toList gd) →
          ∃ l' t' e' h', (∀ k', (chV P nt dm am ops.toList nx (⟨dst, op, c1, c2, c3, gd⟩ :: r) l).out cf t e h k' = (nx l').out cf t' e' h' k') ∧ LayOk dm l' e' ∧ Clr dm t' ∧ KeepF h h' ∧ B.val h.next ≤ B.val h'.next ∧
            ∀ ρ a w w0 (Q : Exit → Act → World → Prop), ARel ρ nt (star l t e) a → HRel ρ h w w0 → (∀ ρ' a' w', Ext h.floor ρ ρ' → ARel ρ' nt (star l' t' e') a' → HRel ρ' h' w' w0 → wpOps P ops Q tl a' w') →
              wpOps P ops Q (List.range' n (r.length + 1) ++ tl) a w := by
        intro e0
        have hf : RunFact P nt ⟨dst, op, c1, c2, c3, gd⟩ l t e (qRun P (rQ l.ls l.al) op).out := qRun_fact hl
        cases hh : handB dm dst with
        | true =>
          cases dst with
          | none => cases hh
          | some d =>
          obtain ⟨d1, d2, d3, d4⟩ := hdst d rfl
          have hb : bitN dm d = true := hh
          rw [hh] at e0
          have e1 : ∀ k', (chV P nt dm am ops.toList nx (⟨some d, op, c1, c2, c3, gd⟩ :: r) l).out cf t e h k' = (gdQ nt l.ls l.al true (fun _ _ _ => false) (qRun P (rQ l.ls l.al) op).out (chV P nt dm am ops.toList nx r (l.push d)).out ops.toList gd).out cf t e h k' := fun k' => by
            rw [e0]; simp only []; rw [W.on_out, W.on_out]; rfl
          rw [e1] at hk
          obtain ⟨v, h1, a1, a2, a3, a4⟩ := op_v (o := ⟨some d, op, c1, c2, c3, gd⟩) hcf hl hf hk
          have a1' := a1 k
          have hk2 : (chV P nt dm am ops.toList nx r (l.push d)).out cf t (v :: e) h1 k = true := by rw [a1'] at hk; exact hk
          obtain ⟨l', t', e', h', b1, b2, b3, b4, b5, b6⟩ := ih (n + 1) hd' (l.push d) t (v :: e) h1 k (hl.push v hb d2) hi hk2
          refine ⟨l', t', e', h', fun k' => by rw [e1, a1]; exact b1 k', b2, b3, KeepF.trans a2 a3 b4, Nat.le_trans a3 b5, fun ρ a w w0 Q A R hq => ?_⟩
          refine wpOps_step hn (a4 ρ a w w0 _ Q A (A.weak hl hi) R fun ρ' x w' l1 hv R' => ?_)
          refine b6 ρ' _ w' w0 Q (ARel.star_put (A.up l1.1) hv d1 (fun m => val_push v hl (d4 hb) d3 m)) R' fun ρ'' a'' w'' l2 A'' R'' => hq ρ'' a'' w'' (l1.trans (by rw [← a2.1]; exact l2)) A'' R''
        | false =>
          rw [hh] at e0
          have e1 : ∀ k', (chV P nt dm am ops.toList nx (⟨dst, op, c1, c2, c3, gd⟩ :: r) l).out cf t e h k' = (gdQ nt l.ls l.al false (dQ (dOf nt dst)).out (qRun P (rQ l.ls l.al) op).out (chV P nt dm am ops.toList nx r l).out ops.toList gd).out cf t e h k' := fun k' => by
            rw [e0]; simp only []; rw [W.on_out, W.on_out, W.on_out]
          rw [e1] at hk
          obtain ⟨v, h1, a1, a2, a3, a4⟩ := op_v (o := ⟨dst, op, c1, c2, c3, gd⟩) hcf hl hf hk
          have a1' := a1 k
          have hk2 : ((dQ (dOf nt dst)).out v t fun t => (chV P nt dm am ops.toList nx r l).out cf t e h1 k) = true := by rw [a1'] at hk; exact hk
          obtain ⟨t1, p1, p2, p3⟩ : ∃ t1, (∀ K, (dQ (dOf nt dst)).out v t K = K t1) ∧ Clr dm t1 ∧ ∀ ρ a x, ARel ρ nt (star l t e) a → VRel ρ v x → ARel ρ nt (star l t1 e) (a.put dst x) := by
            cases dst with
            | none => exact ⟨t, fun K => dQ_out _ v t K, hi, fun ρ a x A _ => A⟩
            | some d =>
              obtain ⟨d1, d2, d3, d4⟩ := hdst d rfl
              have hb : bitN dm d = false := hh
              obtain ⟨t1, s1, s2, s3⟩ := sPut_ok (slOf d) v t
              have ed : dOf nt (some d) = .some (slOf d) := by
                show (match Nat.ble (Nat.succ d) nt && Nat.ble (Nat.succ d) 512 with | true => D.some (slOf d) | false => .bad) = _
                rw [show Nat.ble (Nat.succ d) nt = true from Nat.ble_eq_true_of_le d1, show Nat.ble (Nat.succ d) 512 = true from Nat.ble_eq_true_of_le d2]; rfl
              refine ⟨t1, fun K => by rw [dQ_out, ed]; exact s1 K, fun m hm hmb => ?_, fun ρ a x A hv => A.star_put hv d1 fun m => val_frame hl hb d3 d2 s2 s3 m⟩
              rw [s3 _ (fun h => by have := slOf_inj hm d2 h; rw [this, hb] at hmb; cases hmb)]
              exact hi m hm hmb
          rw [p1] at hk2
          obtain ⟨l', t', e', h', b1, b2, b3, b4, b5, b6⟩ := ih (n + 1) hd' l t1 e h1 k hl p2 hk2
          refine ⟨l', t', e', h', fun k' => by rw [e1, a1]; show (dQ (dOf nt dst)).out v t _ = _; rw [p1]; exact b1 k', b2, b3, KeepF.trans a2 a3 b4, Nat.le_trans a3 b5, fun ρ a w w0 Q A R hq => ?_⟩
          refine wpOps_step hn (a4 ρ a w w0 _ Q A (A.weak hl hi) R fun ρ' x w' l1 hv R' => ?_)
          exact b6 ρ' _ w' w0 Q (p3 ρ' a x (A.up l1.1) hv) R' fun ρ'' a'' w'' l2 A'' R'' => hq ρ'' a'' w'' (l1.trans (by rw [← a2.1]; exact l2)) A'' R''
      cases hnm : nameOf am dst op with
      | none => exact hrun (by simp only [chV_cons, hok, hnm])
      | some dx =>
        obtain ⟨d, x⟩ := dx
        cases gd with
        | some g => exact hrun (by simp only [chV_cons, hok, hnm])
        | none =>
          cases hb : bitN dm d with
          | false =>
            have e0 : chV P nt dm am ops.toList nx (⟨dst, op, c1, c2, c3, none⟩ :: r) l = badQ := by simp only [chV_cons, hok, hnm, hb]
            rw [e0] at hk; exact Bool.noConfusion hk
          | true =>
            have e0 : chV P nt dm am ops.toList nx (⟨dst, op, c1, c2, c3, none⟩ :: r) l = chV P nt dm am ops.toList nx r (l.name d (tgt l.al x)) := by simp only [chV_cons, hok, hnm, hb]
            obtain ⟨hds, hop⟩ : dst = some d ∧ (op = .move x ∨ op = .assign x) := by
              unfold nameOf at hnm
              split at hnm
              · split at hnm
                · cases hnm; exact ⟨rfl, .inl rfl⟩
                · cases hnm
              · split at hnm
                · cases hnm; exact ⟨rfl, .inr rfl⟩
                · cases hnm
              · cases hnm
            subst hds
            obtain ⟨d1, d2, d3, d4⟩ := hdst d rfl
            rw [e0] at hk
            obtain ⟨l', t', e', h', b1, b2, b3, b4, b5, b6⟩ := ih (n + 1) hd' (l.name d (tgt l.al x)) t e h k (hl.named _ hb d2) hi hk
            refine ⟨l', t', e', h', fun k' => by rw [e0, b1], b2, b3, b4, b5, fun ρ a w w0 Q A R hq => ?_⟩
            have hm : ∃ v h1, (∀ k', runK (compOp P op) (fun _ _ _ _ => false) (star l t e) h k' = k' v h1) ∧ v = valO l.ls t e (tgt l.al x) ∧ h1 = h := by
              refine ⟨valO l.ls t e (tgt l.al x), h, fun k' => ?_, rfl, rfl⟩
              have : runK (compOp P op) (fun _ _ _ _ => false) (star l t e) h k' = oK (compO x) (star l t e) fun v => k' v h := by rcases hop with rfl | rfl <;> rfl
              rw [this, oK_eq, valO_eq hl]
            obtain ⟨v, h1, m1, rfl, rfl⟩ := hm
            obtain ⟨v', h1', a1, a2, a3, a4, _⟩ := compOp_ok P ⟨some d, op, c1, c2, c3, none⟩ (fun _ _ _ _ => false) (fun _ _ _ _ hk => Bool.noConfusion hk) (star l t e) h1 (fun _ _ => true) (m1 _)
            have hvh : v' = valO l.ls t e (tgt l.al x) ∧ h1' = h1 := by
              have := a1 fun y g => @decide (y = valO l.ls t e (tgt l.al x) ∧ g = h1) (Classical.propDecidable _)
              rw [m1] at this
              have := this.symm.trans (@decide_eq_true _ (Classical.propDecidable _) ⟨rfl, rfl⟩)
              exact @of_decide_eq_true _ (Classical.propDecidable _) this
            obtain ⟨rfl, rfl⟩ := hvh
            refine wpOps_step hn ?_
            have hw : Region.wanted (⟨some d, op, c1, c2, c3, none⟩ : Oper) (yielded ops a.tmps) = true := rfl
            rw [hw]
            simp only [if_true]
            obtain ⟨nx1, w1, x1, x2⟩ := a4 ρ a w w0 (A.ops _) R
            unfold Oper.wp
            rw [x1]
            refine x2.upon fun y w' ⟨ρ', y1, y2, y3⟩ => ?_
            exact b6 ρ' _ w' w0 Q (ARel.star_put (A.up y1.1) y2 d1 fun m => val_name _ m) y3 fun ρ'' a'' w'' l2 A'' R'' => hq ρ'' a'' w'' (y1.trans l2) A'' R''
theorem put_fr {nt : Nat} {dst : Option Tmp} {v : V} {t : F} {k : F → Bool} (hk : putD (dOf nt dst) v t k = true) : ∃ t', (∀ k', putD (dOf nt dst) v t k' = k' t') ∧ ∀ m, m < 512 → dst ≠ some m → sGet (slOf m) t' = sGet (slOf m) t := by
  cases dst with
  | none => exact ⟨t, fun _ => rfl, fun _ _ _ => rfl⟩
  | some d =>
    have e : dOf nt (some d) = match Nat.ble (Nat.succ d) nt && Nat.ble (Nat.succ d) 512 with | true => .some (slOf d) | false => .bad := rfl
    rw [e] at hk ⊢
    cases hb : (Nat.ble (Nat.succ d) nt && Nat.ble (Nat.succ d) 512) with
    | false => rw [hb] at hk; exact Bool.noConfusion hk
    | true =>
      obtain ⟨t', h1, h2, h3⟩ := sPut_ok (slOf d) v t
      simp only [Bool.and_eq_true] at hb
      have h5 : d < 512 := Nat.le_of_ble_eq_true hb.2
      exact ⟨t', fun k' => h1 k', fun m hm hd => h3 _ fun e => hd (by rw [slOf_inj hm h5 e])⟩
theorem opK_fr {P : Program} {cf : CallF} (hcf : CfOk P cf) {nt : Nat} {ops : Array Oper} {o : Oper} {bar : Bool} {t : F} {h : H} {ih : F → H → (F → H → Bool) → Bool} {k : F → H → Bool}
    (hk : opK ⟨compG nt ops.toList o.guard, dOf nt o.dst, bar, compOp P o.op⟩ cf ih t h k = true) :
    ∃ t' h', (∀ ih' k', opK ⟨compG nt ops.toList o.guard, dOf nt o.dst, bar, compOp P o.op⟩ cf ih' t h k' = ih' t' h' k') ∧ ∀ m, m < 512 → o.dst ≠ some m → sGet (slOf m) t' = sGet (slOf m) t := by
  have e : ∀ ih' k', opK ⟨compG nt ops.toList o.guard, dOf nt o.dst, bar, compOp P o.op⟩ cf ih' t h k' = guardK (compG nt ops.toList o.guard) t fun b => opGo b (compOp P o.op) (dOf nt o.dst) cf ih' t h k' := fun _ _ => rfl
  rw [e] at hk
  obtain ⟨b, g1, _⟩ := guard_ok hk
  rw [g1] at hk
  cases b with
  | false =>
    have e2 : ∀ ih' k', opGo false (compOp P o.op) (dOf nt o.dst) cf ih' t h k' = putD (dOf nt o.dst) (.tu []) t fun t => ih' t h k' := fun _ _ => rfl
    rw [e2] at hk
    obtain ⟨t', p1, p2⟩ := put_fr hk
    exact ⟨t', h, fun ih' k' => by rw [e, g1, e2, p1], p2⟩
  | true =>
    have e2 : ∀ ih' k', opGo true (compOp P o.op) (dOf nt o.dst) cf ih' t h k' = runK (compOp P o.op) cf t h (fun v h => putD (dOf nt o.dst) v t fun t => ih' t h k') := fun _ _ => rfl
    rw [e2] at hk
    obtain ⟨v, h', r1, _⟩ := compOp_ok P o cf hcf t h _ hk
    rw [r1] at hk
    obtain ⟨t', p1, p2⟩ := put_fr hk
    exact ⟨t', h', fun ih' k' => by rw [e, g1, e2, r1, p1], p2⟩
theorem drK_fr {P : Program} {cf : CallF} (hcf : CfOk P cf) {nt : Nat} {ops : Array Oper} {o : Oper} {bar : Bool} {t : F} {h : H} {ih : F → H → (F → H → Bool) → Bool} {k : F → H → Bool}
    (hk : drK ⟨compG nt ops.toList o.guard, dOf nt o.dst, bar, compOp P o.op⟩ cf ih t h k = true) :
    ∃ t' h', (∀ ih' k', drK ⟨compG nt ops.toList o.guard, dOf nt o.dst, bar, compOp P o.op⟩ cf ih' t h k' = ih' t' h' k') ∧ ∀ m, m < 512 → o.dst ≠ some m → sGet (slOf m) t' = sGet (slOf m) t := by
  cases bar with
  | true =>
    have e : ∀ ih' k', drK ⟨compG nt ops.toList o.guard, dOf nt o.dst, true, compOp P o.op⟩ cf ih' t h k' = opK ⟨compG nt ops.toList o.guard, dOf nt o.dst, true, compOp P o.op⟩ cf ih' t h k' := fun ih' k' => by
      show guardK _ t (fun b => drGo b true (compOp P o.op) (dOf nt o.dst) cf ih' t h k') = guardK _ t fun b => opGo b (compOp P o.op) (dOf nt o.dst) cf ih' t h k'
      congr 1; funext b; cases b <;> rfl
    rw [e] at hk
    obtain ⟨t', h', a1, a2⟩ := opK_fr hcf hk
    exact ⟨t', h', fun ih' k' => by rw [e, a1], a2⟩
  | false =>
    have e : ∀ ih' k', drK ⟨compG nt ops.toList o.guard, dOf nt o.dst, false, compOp P o.op⟩ cf ih' t h k' = guardK (compG nt ops.toList o.guard) t fun b => drGo b false (compOp P o.op) (dOf nt o.dst) cf ih' t h k' := fun _ _ => rfl
    rw [e] at hk
    obtain ⟨b, g1, _⟩ := guard_ok hk
    rw [g1] at hk
    cases b with
    | false =>
      have e2 : ∀ ih' k', drGo false false (compOp P o.op) (dOf nt o.dst) cf ih' t h k' = putD (dOf nt o.dst) (.tu []) t fun t => ih' t h k' := fun _ _ => rfl
      rw [e2] at hk
      obtain ⟨t', p1, p2⟩ := put_fr hk
      exact ⟨t', h, fun ih' k' => by rw [e, g1, e2, p1], p2⟩
    | true =>
      have e2 : ∀ ih' k', drGo true false (compOp P o.op) (dOf nt o.dst) cf ih' t h k' = runK (compOp P o.op) cf t (reFloor h) (fun v h' => putD (dOf nt o.dst) v t fun t => ih' t (unFloor h h') k') := fun _ _ => rfl
      rw [e2] at hk
      obtain ⟨v, h', r1, _⟩ := compOp_ok P o cf hcf t (reFloor h) _ hk
      rw [r1] at hk
      obtain ⟨t', p1, p2⟩ := put_fr hk
      exact ⟨t', unFloor h h', fun ih' k' => by rw [e, g1, e2, r1, p1], p2⟩
theorem dr_fr {P : Program} {cf : CallF} (hcf : CfOk P cf) {nt : Nat} {ops : Array Oper} (bars : Nat → Bool) : ∀ (l : List Oper) (n : Nat) (t : F) (h : H) (k : F → H → Bool), execDr cf (compOpsWith bars P nt ops.toList (compOp P) n l) t h k = true →
    ∃ t' h', (∀ k', execDr cf (compOpsWith bars P nt ops.toList (compOp P) n l) t h k' = k' t' h') ∧ ∀ m, m < 512 → (∀ o ∈ l, o.dst ≠ some m) → sGet (slOf m) t' = sGet (slOf m) t := by
  intro l
  induction l with
  | nil => intro n t h k _; exact ⟨t, h, fun _ => rfl, fun _ _ _ => rfl⟩
  | cons o l ih =>
    intro n t h k hk
    have e : ∀ k', execDr cf (compOpsWith bars P nt ops.toList (compOp P) n (o :: l)) t h k' = drK ⟨compG nt ops.toList o.guard, dOf nt o.dst, bars n, compOp P o.op⟩ cf (execDr cf (compOpsWith bars P nt ops.toList (compOp P) (n + 1) l)) t h k' := fun _ => rfl
    rw [e] at hk
    obtain ⟨t1, h1, a1, a2⟩ := drK_fr hcf hk
    rw [a1] at hk
    obtain ⟨t2, h2, b1, b2⟩ := ih (n + 1) t1 h1 k hk
    exact ⟨t2, h2, fun k' => by rw [e, a1, b1], fun m hm hd => by rw [b2 m hm fun o ho => hd o (by simp [ho]), a2 m hm (hd o (by simp))]⟩
theorem ch_fr {P : Program} {cf : CallF} (hcf : CfOk P cf) {nt : Nat} {ops : Array Oper} (bars : Nat → Bool) : ∀ (l : List Oper) (n : Nat) (t : F) (h : H) (k : List (F × H) → F → H → Bool), chRun cf (compOpsWith bars P nt ops.toList (compOp P) n l) t h k = true →
    ∃ x t' h', (∀ k', chRun cf (compOpsWith bars P nt ops.toList (compOp P) n l) t h k' = k' x t' h') ∧ ∀ m, m < 512 → (∀ o ∈ l, o.dst ≠ some m) → sGet (slOf m) t' = sGet (slOf m) t := by
  intro l
  induction l with
  | nil => intro n t h k _; exact ⟨[], t, h, fun _ => rfl, fun _ _ _ => rfl⟩
  | cons o l ih =>
    intro n t h k hk
    have e : ∀ k', chRun cf (compOpsWith bars P nt ops.toList (compOp P) n (o :: l)) t h k' = opK ⟨compG nt ops.toList o.guard, dOf nt o.dst, bars n, compOp P o.op⟩ cf (fun t1 h1 _ => chRun cf (compOpsWith bars P nt ops.toList (compOp P) (n + 1) l) t1 h1 fun l t2 h2 => k' ((t1, h1) :: l) t2 h2) t h fun _ _ => true := fun _ => rfl
    rw [e] at hk
    obtain ⟨t1, h1, a1, a2⟩ := opK_fr hcf hk
    rw [a1] at hk
    obtain ⟨x, t2, h2, b1, b2⟩ := ih (n + 1) t1 h1 _ hk
    exact ⟨(t1, h1) :: x, t2, h2, fun k' => by rw [e, a1, b1], fun m hm hd => by rw [b2 m hm fun o ho => hd o (by simp [ho]), a2 m hm (hd o (by simp))]⟩
theorem stQ_eq (g : G) (r : Rv) (p : Pq) (nx : StF) (cf : CallF) (t : F) (e : E) (h : H) (k : K) : (stQ g r p nx).out cf t e h k = guardK g t fun b => sxG b r p nx cf t h k := by
  cases g with
  | none => rfl
  | some s w =>
    show (W.on (gq s) fun g => ⟨fun cf t _ h k => g t [] fun v => vG v w fun b => sxG b r p nx cf t h k⟩).out cf t e h k = _
    rw [W.on_out, W.mk_out, gq_out]; rfl
  | bad => rfl
theorem dtQ_eq (g : G) (r : Rv) (p : Pq) (nx : StF) (cf : CallF) (t : F) (e : E) (h : H) (k : K) : (dtQ g r p nx).out cf t e h k = guardK g t fun b => dxG b r p nx cf t h k := by
  cases g with
  | none => rfl
  | some s w =>
    show (W.on (gq s) fun g => ⟨fun cf t _ h k => g t [] fun v => vG v w fun b => dxG b r p nx cf t h k⟩).out cf t e h k = _
    rw [W.on_out, W.mk_out, gq_out]; rfl
  | bad => rfl
theorem drQ_cons (bars : Nat → Bool) (P : Program) (nt : Nat) (all : List Oper) (nx : W StF) (n : Nat) (o : Oper) (l : List Oper) (cf : CallF) (t : F) (e : E) (h : H) (k : K) : (drQ bars P nt all nx n (o :: l)).out cf t e h k =
    (match bars n with | true => stQ (compG nt all o.guard) (qRun P (rQ [] []) o.op).out (dQ (dOf nt o.dst)).out (drQ bars P nt all nx (n + 1) l).out | false => dtQ (compG nt all o.guard) (qRun P (rQ [] []) o.op).out (dQ (dOf nt o.dst)).out (drQ bars P nt all nx (n + 1) l).out).out cf t e h k := by
  show (W.on (dQ (dOf nt o.dst)) fun p => W.on (drQ bars P nt all nx (n + 1) l) fun nx => W.on (qRun P (rQ [] []) o.op) fun r' => match bars n with | true => stQ (compG nt all o.guard) r' p nx | false => dtQ (compG nt all o.guard) r' p nx).out cf t e h k = _
  rw [W.on_out, W.on_out, W.on_out]
theorem drQ_any (bars : Nat → Bool) (P : Program) (nt : Nat) (all : List Oper) (nx : W StF) (n : Nat) (o : Oper) (l : List Oper) (cf : CallF) (t : F) (e : E) (h : H) (k : K) : (drQ bars P nt all nx n (o :: l)).out cf t e h k = (drQ bars P nt all nx n (o :: l)).out cf t [] h k := by
  rw [drQ_cons, drQ_cons]
  cases bars n with
  | true => show (stQ _ _ _ _).out cf t e h k = (stQ _ _ _ _).out cf t [] h k; rw [stQ_eq, stQ_eq]
  | false => show (dtQ _ _ _ _).out cf t e h k = (dtQ _ _ _ _).out cf t [] h k; rw [dtQ_eq, dtQ_eq]
theorem drQ_eq (bars : Nat → Bool) (P : Program) (nt : Nat) (all : List Oper) (nx : W StF) (cf : CallF) (k : K) : ∀ (l : List Oper) (n : Nat) (t : F) (h : H),
    (drQ bars P nt all nx n l).out cf t [] h k = execDr cf (compOpsWith bars P nt all (compOp P) n l) t h fun t h => nx.out cf t [] h k := by
  intro l
  induction l with
  | nil => intro n t h; rfl
  | cons o l ih =>
    intro n t h
    show _ = guardK (compG nt all o.guard) t fun b => drGo b (bars n) (compOp P o.op) (dOf nt o.dst) cf (execDr cf (compOpsWith bars P nt all (compOp P) (n + 1) l)) t h fun t h => nx.out cf t [] h k
    rw [drQ_cons]
    cases bars n with
    | true =>
      show (stQ _ _ _ _).out cf t [] h k = _
      rw [stQ_eq]
      congr 1; funext b
      cases b with
      | false =>
        show (dQ (dOf nt o.dst)).out (.tu []) t (fun t => (drQ bars P nt all nx (n + 1) l).out cf t [] h k) = putD (dOf nt o.dst) (.tu []) t fun t => execDr cf (compOpsWith bars P nt all (compOp P) (n + 1) l) t h fun t h => nx.out cf t [] h k
        rw [dQ_out]; congr 1; funext t; exact ih (n + 1) t h
      | true =>
        show ((qRun P (rQ [] []) o.op).out cf t [] h fun v h' => (dQ (dOf nt o.dst)).out v t fun t => (drQ bars P nt all nx (n + 1) l).out cf t [] h' k) = runK (compOp P o.op) cf t h fun v h => putD (dOf nt o.dst) v t fun t => execDr cf (compOpsWith bars P nt all (compOp P) (n + 1) l) t h fun t h => nx.out cf t [] h k
        rw [qRun_frame]; congr 1; funext v h; rw [dQ_out]; congr 1; funext t; exact ih (n + 1) t h
    | false =>
      show (dtQ _ _ _ _).out cf t [] h k = _
      rw [dtQ_eq]
      congr 1; funext b
      cases b with
      | false =>
        show (dQ (dOf nt o.dst)).out (.tu []) t (fun t => (drQ bars P nt all nx (n + 1) l).out cf t [] h k) = putD (dOf nt o.dst) (.tu []) t fun t => execDr cf (compOpsWith bars P nt all (compOp P) (n + 1) l) t h fun t h => nx.out cf t [] h k
        rw [dQ_out]; congr 1; funext t; exact ih (n + 1) t h
      | true =>
        show ((qRun P (rQ [] []) o.op).out cf t [] (reFloor h) fun v h' => (dQ (dOf nt o.dst)).out v t fun t => (drQ bars P nt all nx (n + 1) l).out cf t [] (unFloor h h') k) = runK (compOp P o.op) cf t (reFloor h) fun v h' => putD (dOf nt o.dst) v t fun t => execDr cf (compOpsWith bars P nt all (compOp P) (n + 1) l) t (unFloor h h') fun t h => nx.out cf t [] h k
        rw [qRun_frame]; congr 1; funext v h'; rw [dQ_out]; congr 1; funext t; exact ih (n + 1) t _
theorem natR_eq {R : Type} (n : Nat) (k : Nat → R) : natR n k = k n := by cases n <;> rfl
theorem boolR_eq {R : Type} (b : Bool) (k : Bool → R) : boolR b k = k b := by cases b <;> rfl
theorem snR_eq {R : Type} : ∀ (l : List Nat) (b : Nat) (k : List Nat → R), snR l b k = k (l ++ [b]) := by
  intro l
  induction l with
  | nil => intro b k; rfl
  | cons x l ih => intro b k; exact ih b _
theorem befQ_eq (done : List Nat) : ∀ (es : List Edge) (acc : Nat), befQ done es acc = befOf done es acc := by
  intro es
  induction es with
  | nil => intro acc; rfl
  | cons e es ih =>
    intro acc
    show Bool.rec (motive := fun _ => Nat) (befQ done es acc) (befQ done es (Nat.lor (Nat.lor acc (Nat.pow 2 e.on)) ((lgQ done e.on).getD 0))) (Region.binds .any e) = match Region.binds .any e with
      | true => befOf done es (Nat.lor (Nat.lor acc (Nat.pow 2 e.on)) ((done[e.on]?).getD 0))
      | false => befOf done es acc
    cases Region.binds .any e with
    | true => show befQ done es _ = befOf done es _; rw [ih, lg_eq]
    | false => exact ih acc
theorem befsR_eq {R : Type} : ∀ (ops : List Oper) (done : List Nat) (k : List Nat → R), befsR ops done k = k (befs ops done) := by
  intro ops
  induction ops with
  | nil => intro done k; rfl
  | cons o ops ih =>
    intro done k
    show natR (befQ done o.after.toList 0) (fun b => snR done b fun done => befsR ops done k) = k (befs ops (done ++ [befOf done o.after.toList 0]))
    rw [natR_eq, snR_eq, ih, befQ_eq]
noncomputable def rwOf (P : Program) (all : List Oper) (bs : List Nat) (p : Oper × Nat) : Rw := ⟨p.2, (bs[p.2]?).getD 0, mOf (dstL p.1), mOf (looks all p.1), still P p.1.op⟩
theorem rowsR_eq {R : Type} (P : Program) (all : List Oper) (bs : List Nat) : ∀ (ops : List Oper) (n : Nat) (k : List Rw → R), rowsR P all bs ops n k = k ((ops.zipIdx n).map (rwOf P all bs)) := by
  intro ops
  induction ops with
  | nil => intro n k; rfl
  | cons o ops ih =>
    intro n k
    show (natR ((lgQ bs n).getD 0) fun b => natR (mOf (dstL o)) fun d => natR (mOf (looks all o)) fun l => boolR (still P o.op) fun s => rowsR P all bs ops (n + 1) fun r => k (⟨n, b, d, l, s⟩ :: r)) = _
    rw [natR_eq, natR_eq, natR_eq, boolR_eq, ih, lg_eq]
    rfl
theorem bit_mOf (l : List Nat) (n : Nat) : (mOf l).testBit n = true ↔ n ∈ l := by
  induction l with
  | nil => show (0 : Nat).testBit n = true ↔ _; rw [Nat.zero_testBit]; simp
  | cons m l ih =>
    show (Nat.lor (Nat.pow 2 m) (mOf l)).testBit n = true ↔ _
    have : (Nat.lor (Nat.pow 2 m) (mOf l)).testBit n = ((2 ^ m).testBit n || (mOf l).testBit n) := Nat.testBit_or _ _ n
    rw [this, Bool.or_eq_true, ih, Nat.testBit_two_pow, decide_eq_true_iff, List.mem_cons]
    exact ⟨fun h => h.imp Eq.symm id, fun h => h.imp Eq.symm id⟩
theorem apart_of {a b : List Nat} (h : Nat.beq (Nat.land (mOf a) (mOf b)) 0 = true) : apartL a b = true := by
  have h0 : Nat.land (mOf a) (mOf b) = 0 := Nat.eq_of_beq_eq_true h
  unfold apartL
  rw [List.all_eq_true]
  intro x hx
  rw [List.all_eq_true]
  intro y hy
  cases hb : Nat.beq x y with
  | false => rfl
  | true =>
    have hxy : x = y := Nat.eq_of_beq_eq_true hb
    subst hxy
    have h1 : (Nat.land (mOf a) (mOf b)).testBit x = ((mOf a).testBit x && (mOf b).testBit x) := Nat.testBit_and _ _ x
    rw [h0, Nat.zero_testBit, (bit_mOf a x).2 hx, (bit_mOf b x).2 hy] at h1
    cases h1
theorem rowQ_all {i d l : Nat} : ∀ {r : List Rw}, rowQ i d l r = true → ∀ y ∈ r, bitN y.b i = true ∨ apQ d l y.d y.l = true := by
  intro r
  induction r with
  | nil => intro _ y hy; cases hy
  | cons z r ih =>
    intro h y hy
    obtain ⟨zi, zb, zd, zl, zs⟩ := z
    have h' : Bool.rec (motive := fun _ => Bool) (Bool.rec (motive := fun _ => Bool) false (rowQ i d l r) (apQ d l zd zl)) (rowQ i d l r) (bitN zb i) = true := h
    have key : (bitN zb i = true ∨ apQ d l zd zl = true) ∧ rowQ i d l r = true := by
      cases h1 : bitN zb i with
      | true => rw [h1] at h'; exact ⟨.inl rfl, h'⟩
      | false =>
        rw [h1] at h'
        cases h2 : apQ d l zd zl with
        | true => rw [h2] at h'; exact ⟨.inr rfl, h'⟩
        | false => rw [h2] at h'; cases h'
    rcases List.mem_cons.1 hy with rfl | hy
    · exact key.1
    · exact ih key.2 y hy
theorem allQ_pair : ∀ {r : List Rw}, allQ r = true → r.Pairwise fun x y => bitN y.b x.i = true ∨ apQ x.d x.l y.d y.l = true := by
  intro r
  induction r with
  | nil => intro _; exact .nil
  | cons x r ih =>
    intro h
    obtain ⟨i, b, d, l, s⟩ := x
    have h' : Bool.rec (motive := fun _ => Bool) false (allQ r) (rowQ i d l r) = true := h
    cases h1 : rowQ i d l r with
    | false => rw [h1] at h'; cases h'
    | true => rw [h1] at h'; exact .cons (fun y hy => rowQ_all h1 y hy) (ih h')
theorem drawsOk_of {P : Program} {ops : List Oper} (h1 : (edgesUp 0 ops && ops.all fun o => !isSel o.op) = true) (h2 : allQ (ops.zipIdx.map (rwOf P ops (befs ops []))) = true) : drawsOk ops = true := by
  unfold drawsOk
  rw [Bool.and_eq_true] at h1
  rw [h1.1, h1.2, Bool.true_and, Bool.true_and, List.all_eq_true]
  rintro ⟨oi, i⟩ hi
  rw [List.all_eq_true]
  rintro ⟨oj, j⟩ hj
  have hp := allQ_pair h2
  rw [List.pairwise_map] at hp
  show pairOk ops (befs ops []) i j oi oj = true
  unfold pairOk
  by_cases hij : j ≤ i
  · rw [show Nat.ble j i = true from Nat.ble_eq_true_of_le hij]; rfl
  · have hi' : ops.zipIdx[i]? = some (oi, i) := by
      have := List.mem_zipIdx_iff_getElem?.1 hi
      rw [List.getElem?_zipIdx]
      simp only [] at this
      rw [this]; simp
    have hj' : ops.zipIdx[j]? = some (oj, j) := by
      have := List.mem_zipIdx_iff_getElem?.1 hj
      rw [List.getElem?_zipIdx]
      simp only [] at this
      rw [this]; simp
    obtain ⟨li, ei⟩ := List.getElem?_eq_some_iff.1 hi'
    obtain ⟨lj, ej⟩ := List.getElem?_eq_some_iff.1 hj'
    have := (List.pairwise_iff_getElem.1 hp) i j li lj (by omega)
    rw [ei, ej] at this
    rw [Bool.or_eq_true, Bool.or_eq_true]
    right
    rcases this with h | h
    · left; rw [← bitN_eq]; exact h
    · right
      have h' : apQ (mOf (dstL oi)) (mOf (looks ops oi)) (mOf (dstL oj)) (mOf (looks ops oj)) = true := h
      unfold apQ at h'
      rw [bAnd_eq, bAnd_eq, Bool.and_eq_true, Bool.and_eq_true] at h'
      unfold slotsOk
      rw [apart_of h'.1, apart_of h'.2.1, apart_of h'.2.2]; rfl
theorem barQ_eq {P : Program} {ops : List Oper} {bs : List Nat} (i b : Nat) : ∀ (l : List (Oper × Nat)), barQ i b (l.map (rwOf P ops bs)) = l.all fun p => still P p.1.op || (Nat.beq i p.2 || (Nat.testBit ((bs[p.2]?).getD 0) i || Nat.testBit b p.2)) := by
  intro l
  induction l with
  | nil => rfl
  | cons p l ih =>
    rw [List.all_cons, ← ih]
    show Bool.rec (motive := fun _ => Bool) (Bool.rec (motive := fun _ => Bool) (Bool.rec (motive := fun _ => Bool) (Bool.rec (motive := fun _ => Bool) false (barQ i b (l.map (rwOf P ops bs))) (bitN b p.2)) (barQ i b (l.map (rwOf P ops bs))) (bitN ((bs[p.2]?).getD 0) i)) (barQ i b (l.map (rwOf P ops bs))) (Nat.beq i p.2)) (barQ i b (l.map (rwOf P ops bs))) (still P p.1.op) = _
    rw [bitN_eq, bitN_eq]
    cases still P p.1.op <;> cases Nat.beq i p.2 <;> cases Nat.testBit ((bs[p.2]?).getD 0) i <;> cases Nat.testBit b p.2 <;> rfl
theorem barsR_eq {R : Type} (all : List Rw) : ∀ (r : List Rw) (k : List Bool → R), barsR all r k = k (r.map fun x => match x.s with | true => false | false => barQ x.i x.b all) := by
  intro r
  induction r with
  | nil => intro k; rfl
  | cons x r ih =>
    intro k
    obtain ⟨i, b, d, l, s⟩ := x
    show (boolR (Bool.rec (motive := fun _ => Bool) (barQ i b all) false s) fun c => barsR all r fun r => k (c :: r)) = _
    rw [boolR_eq, ih]
    cases s <;> rfl
theorem barL_eq {P : Program} {ops : List Oper} : barL ((ops.zipIdx.map (rwOf P ops (befs ops []))).map fun x => match x.s with | true => false | false => barQ x.i x.b (ops.zipIdx.map (rwOf P ops (befs ops [])))) = barAt P ops (befs ops []) := by
  funext i
  unfold barL barAt
  rw [lg_eq, List.getElem?_map, List.getElem?_map, List.getElem?_zipIdx]
  cases h : ops[i]? with
  | none => rfl
  | some o =>
    simp only [Option.map_some, Option.getD_some, Nat.zero_add]
    show (match still P o.op with | true => false | false => barQ i (((befs ops [])[i]?).getD 0) (ops.zipIdx.map (rwOf P ops (befs ops [])))) = barOf P ops (befs ops []) i o
    unfold barOf
    cases still P o.op with
    | true => rfl
    | false => simp only [barQ_eq]; rfl
theorem commQ_eq : ∀ (ops : List Oper) (n : Nat), commQ ops n = commAt n ops := by
  intro ops
  induction ops with
  | nil => intro n; rfl
  | cons o ops ih =>
    intro n
    obtain ⟨dst, op, a, b, c, d⟩ := o
    cases op <;> first | exact ih (n + 1) | rfl
theorem stC_eq (g : G) (r : Rv) (p : Pq) (m : Cq) (cf : CallF) (t : F) (h : H) (k : List (F × H) → F → H → Bool) : (stCq g r p m).out cf t h k = guardK g t fun b => cxG b r p m cf t h k := by
  cases g with
  | none => rfl
  | some s w =>
    show (W.on (gq s) fun g => ⟨fun cf t h k => g t [] fun v => vG v w fun b => cxG b r p m cf t h k⟩).out cf t h k = _
    rw [W.on_out, W.mk_out, gq_out]; rfl
  | bad => rfl
theorem crQ_eq (bars : Nat → Bool) (P : Program) (nt : Nat) (all : List Oper) (cf : CallF) : ∀ (l : List Oper) (n : Nat) (t : F) (h : H) (k : List (F × H) → F → H → Bool), (crQ P nt all l).out cf t h k = chRun cf (compOpsWith bars P nt all (compOp P) n l) t h k := by
  intro l
  induction l with
  | nil => intro n t h k; rfl
  | cons o l ih =>
    intro n t h k
    show (W.on (dQ (dOf nt o.dst)) fun p => W.on (qRun P (rQ [] []) o.op) fun r => W.on (crQ P nt all l) fun m => stCq (compG nt all o.guard) r p m).out cf t h k
      = guardK (compG nt all o.guard) t fun b => opGo b (compOp P o.op) (dOf nt o.dst) cf (fun t1 h1 _ => chRun cf (compOpsWith bars P nt all (compOp P) (n + 1) l) t1 h1 fun l t2 h2 => k ((t1, h1) :: l) t2 h2) t h fun _ _ => true
    rw [W.on_out, W.on_out, W.on_out, stC_eq]
    congr 1; funext b
    cases b with
    | false =>
      show (dQ (dOf nt o.dst)).out (.tu []) t (fun t1 => (crQ P nt all l).out cf t1 h fun l t2 h2 => k ((t1, h) :: l) t2 h2) = putD (dOf nt o.dst) (.tu []) t fun t1 => chRun cf (compOpsWith bars P nt all (compOp P) (n + 1) l) t1 h fun l t2 h2 => k ((t1, h) :: l) t2 h2
      rw [dQ_out]; congr 1; funext t1; exact ih (n + 1) t1 h _
    | true =>
      show ((qRun P (rQ [] []) o.op).out cf t [] h fun v h1 => (dQ (dOf nt o.dst)).out v t fun t1 => (crQ P nt all l).out cf t1 h1 fun l t2 h2 => k ((t1, h1) :: l) t2 h2) = runK (compOp P o.op) cf t h fun v h1 => putD (dOf nt o.dst) v t fun t1 => chRun cf (compOpsWith bars P nt all (compOp P) (n + 1) l) t1 h1 fun l t2 h2 => k ((t1, h1) :: l) t2 h2
      rw [qRun_frame]; congr 1; funext v h1; rw [dQ_out]; congr 1; funext t1; exact ih (n + 1) t1 h1 _
theorem putD_const (nt : Nat) (d : Option Tmp) (v : V) (t : F) (x : Bool) : putD (dOf nt d) v t (fun _ => x) = dK (dOf nt d) x := by
  cases dOf nt d with
  | none => rfl
  | some s => obtain ⟨t', h1, _⟩ := sPut_ok s v t; exact h1 fun _ => x
  | bad => rfl
theorem lkQ_eq (P : Program) (nt : Nat) (all : List Oper) (o : Oper) (bar : Bool) (cf : CallF) (t : F) (h h2 : H) (k : Unit → Bool) :
    lkQ (compG nt all o.guard) (qRun P (rQ [] []) o.op).out (dOf nt o.dst) cf t h h2 k = lockK ⟨compG nt all o.guard, dOf nt o.dst, bar, compOp P o.op⟩ cf (fun t _ _ k => k t) t h h2 fun _ => k () := by
  show (guardK (compG nt all o.guard) t fun b => _) = guardK (compG nt all o.guard) t fun b => lockGo b (compOp P o.op) (dOf nt o.dst) cf (fun t _ _ k => k t) t h h2 fun _ => k ()
  congr 1; funext b
  cases b with
  | false =>
    show dK (dOf nt o.dst) (k ()) = putD (dOf nt o.dst) (.tu []) t fun _ => k ()
    rw [putD_const]
  | true =>
    show ((qRun P (rQ [] []) o.op).out cf t [] h fun v _ => (qRun P (rQ [] []) o.op).out cf t [] h2 fun v' _ => ifK (eqV v v') fun _ => dK (dOf nt o.dst) (k ())) = runK (compOp P o.op) cf t h fun v _ => runK (compOp P o.op) cf t h2 fun v' _ => ifK (eqV v v') fun _ => putD (dOf nt o.dst) v t fun _ => k ()
    rw [qRun_frame]; congr 1; funext v _; rw [qRun_frame]; congr 1; funext v' _; rw [putD_const]
theorem jsQ_eq (P : Program) (nt : Nat) (all : List Oper) (o : Oper) (bar : Bool) (cf : CallF) (l : List (F × H)) (ti : F) (hi : H) : ∀ (js : List Nat) (k : Unit → Bool),
    jsQ (compG nt all o.guard) (qRun P (rQ [] []) o.op).out (dOf nt o.dst) cf l ti hi js k = chJs ⟨compG nt all o.guard, dOf nt o.dst, bar, compOp P o.op⟩ cf l ti hi js k := by
  intro js
  induction js with
  | nil => intro k; rfl
  | cons j js ih =>
    intro k
    show (optK (lgQ l j) fun th => _) = optK l[j]? fun th => _
    rw [lg_eq]; congr 1; funext th
    obtain ⟨tj, hj⟩ := th
    show lkQ _ _ _ cf ti hi hj (fun _ => jsQ _ _ _ cf l ti hi js k) = lockK _ cf _ ti hi hj fun _ => chJs _ cf l ti hi js k
    rw [lkQ_eq P nt all o bar, ih]
theorem opsWith_get (bars : Nat → Bool) (P : Program) (nt : Nat) (all : List Oper) : ∀ (l : List Oper) (n i : Nat), (compOpsWith bars P nt all (compOp P) n l)[i]? = (l[i]?).map fun o => ⟨compG nt all o.guard, dOf nt o.dst, bars (n + i), compOp P o.op⟩ := by
  intro l
  induction l with
  | nil => intro n i; rfl
  | cons o l ih =>
    intro n i
    cases i with
    | zero => rfl
    | succ i =>
      show (compOpsWith bars P nt all (compOp P) (n + 1) l)[i]? = _
      rw [ih, List.getElem?_cons_succ, show n + 1 + i = n + (i + 1) by omega]
theorem ckQ_eq (bars : Nat → Bool) (P : Program) (nt : Nat) (all : List Oper) (cf : CallF) (l : List (F × H)) : ∀ (cs : List (Nat × List Nat)) (k : Unit → Bool), (ckQ P nt all cs).out cf l k = chChk cf (compOpsWith bars P nt all (compOp P) 0 all) l cs k := by
  intro cs
  induction cs with
  | nil => intro k; rfl
  | cons p cs ih =>
    intro k
    obtain ⟨i, js⟩ := p
    show (Option.rec (motive := fun _ => W Kq) ⟨fun _ _ _ => false⟩ (ckO P nt all i js (ckQ P nt all cs)) (lgQ all i)).out cf l k = optK (compOpsWith bars P nt all (compOp P) 0 all)[i]? fun o => optK l[i]? fun th => Prod.rec (motive := fun _ => Bool) (fun ti hi => chJs o cf l ti hi js fun _ => chChk cf (compOpsWith bars P nt all (compOp P) 0 all) l cs k) th
    rw [lg_eq, opsWith_get]
    cases all[i]? with
    | none => rfl
    | some o =>
      show (ckO P nt all i js (ckQ P nt all cs) o).out cf l k = optK l[i]? fun th => _
      unfold ckO
      rw [W.on_out, W.on_out, W.mk_out, lg_eq]
      congr 1; funext th
      obtain ⟨ti, hi⟩ := th
      show jsQ _ _ _ cf l ti hi js (fun _ => (ckQ P nt all cs).out cf l k) = chJs _ cf l ti hi js fun _ => chChk cf _ l cs k
      rw [jsQ_eq P nt all o (bars (0 + i)), ih]
theorem dcQ_some (bars : Nat → Bool) (P : Program) (nt : Nat) (ops : List Oper) (nx : W StF) (ld : List Nat) (cs : List (Nat × List Nat)) (cf : CallF) (t : F) (e : E) (h : H) (k : K) :
    (dcQ bars P nt ops nx (some (ld, cs))).out cf t e h k = execCh cf (compOpsWith bars P nt ops (compOp P) 0 ops) cs t h fun t h => nx.out cf t [] h k := by
  show (W.on (crQ P nt ops ops) fun run => W.on (ckQ P nt ops cs) fun ck => W.on nx fun nx => ⟨fun cf t _ h k => run cf t h fun l t1 h1 => ck cf ((t, h) :: l) fun _ => nx cf t1 [] h1 k⟩).out cf t e h k = chRun cf (compOpsWith bars P nt ops (compOp P) 0 ops) t h fun l t1 h1 => chChk cf (compOpsWith bars P nt ops (compOp P) 0 ops) ((t, h) :: l) cs fun _ => nx.out cf t1 [] h1 k
  rw [W.on_out, W.on_out, W.on_out, W.mk_out, crQ_eq bars P nt ops cf ops 0]
  congr 1; funext l t1 h1
  rw [ckQ_eq bars]
noncomputable def aft (nx : W StF) (cf : CallF) (k : K) (x : X) (t : F) (e : E) (h : H) : Bool := X.rec (fun t e h => nx.out cf t e h k) (fun id t _ h => k (.exit id) t h) (fun t _ h => k .ret t h) x t e h
def QOk (P : Program) (cf : CallF) (nt dm : Nat) (c : Code) (w : Lay → (Lay → W StF) → W StF) : Prop := ∀ nx l t e h k, LayOk dm l e → Clr dm t → (w l nx).out cf t e h k = true →
  ∃ x l' t' e' h', (∀ k', (w l nx).out cf t e h k' = aft (nx l') cf k' x t' e' h') ∧ LayOk dm l' e' ∧ Clr dm t' ∧ KeepF h h' ∧ B.val h.next ≤ B.val h'.next ∧
    ∀ ρ a w w0 (Q : Exit → Act → World → Prop), ARel ρ nt (star l t e) a → HRel ρ h w w0 → (∀ ρ' a' w', Ext h.floor ρ ρ' → ARel ρ' nt (star l' t' e') a' → HRel ρ' h' w' w0 → Q (xOf x) a' w') → c.wp P Q a w
theorem badQ_ok {P : Program} {cf : CallF} {nt dm : Nat} {c : Code} : QOk P cf nt dm c fun _ _ => badQ := fun _ _ _ _ _ _ _ _ h => Bool.noConfusion h
theorem clr_of {dm : Nat} {ops : List Oper} {t t' : F} (ho : (ops.all fun o => !handB dm o.dst) = true) (hi : Clr dm t) (h : ∀ m, m < 512 → (∀ o ∈ ops, o.dst ≠ some m) → sGet (slOf m) t' = sGet (slOf m) t) : Clr dm t' := by
  intro m hm hb
  rw [h m hm fun o hO hd => ?_]
  · exact hi m hm hb
  · have := List.all_eq_true.1 ho o hO
    rw [hd] at this
    simp [handB, hb] at this
theorem region_q {P : Program} (hm : P.follows .mixedOrders = true) {cf : CallF} (hcf : CfOk P cf) (nt dm am id : Nat) (ops : Array Oper) (draw : Bool) : QOk P cf nt dm (.region id ops draw) (fun l nx => rgQ P nt dm am ops.toList draw l nx) := by
  intro nx l t e h k hl hi hk
  cases draw with
  | false =>
    cases hc : commAt 0 ops.toList with
    | none =>
      have e0 : rgQ P nt dm am ops.toList false l nx = chV P nt dm am ops.toList nx ops.toList l := by simp only [rgQ, commQ_eq, hc]
      simp only [e0] at hk ⊢
      obtain ⟨l', t', e', h', a1, a2, a3, a4, a5, a6⟩ := chV_ok (s := []) (tl := []) hcf ops.toList 0 (by simp) l t e h k hl hi hk
      refine ⟨.normal, l', t', e', h', fun k' => by rw [a1]; rfl, a2, a3, a4, a5, fun ρ a w w0 Q A R hQ => ?_⟩
      refine wp_region ?_
      have := a6 ρ a w w0 Q A R hQ
      rwa [List.append_nil, show List.range' 0 ops.toList.length = List.range ops.size by rw [List.range_eq_range']; simp] at this
    | some n =>
      have e0 : rgQ P nt dm am ops.toList false l nx = cmQ dm (compComm P nt ops.toList n) (nx .zero) := by simp only [rgQ, commQ_eq, hc]
      simp only [e0] at hk ⊢
      obtain ⟨j, rfl, hj⟩ := commAt_lt hc
      rw [Nat.zero_add] at hk ⊢
      have hj' : j < ops.size := by simpa using hj
      obtain ⟨⟨dst, op, e1, e2, e3, g⟩, ho⟩ : ∃ o, ops[j]? = some o := ⟨ops[j], by simp [hj']⟩
      have ho' : ops.toList[j]? = some ⟨dst, op, e1, e2, e3, g⟩ := by simpa using ho
      cases hd : Nat.beq dm 0 with
      | false =>
        have e : cmQ dm (compComm P nt ops.toList j) (nx .zero) = badQ := by simp only [cmQ, hd]
        rw [e] at hk; exact Bool.noConfusion hk
      | true =>
      cases g with
      | some g =>
        have e : cmQ dm (compComm P nt ops.toList j) (nx .zero) = badQ := by simp only [compComm, ho', cmQ, hd]
        rw [e] at hk; exact Bool.noConfusion hk
      | none =>
        have eq : ∀ k', (cmQ dm (compComm P nt ops.toList j) (nx .zero)).out cf t e h k' = (execOps cf (compOpsWith (fun _ => true) P nt ops.toList (compOp P) 0 (ops.toList.take j)) t h fun t h => cmK (compCm P op) t h fun v h => putD (dOf nt dst) v t fun t => execOps cf (compOpsWith (fun _ => true) P nt ops.toList (compOp P) (j + 1) (ops.toList.drop (j + 1))) t h fun t h => (nx .zero).out cf t [] h k') := by
          intro k'
          simp only [compComm, ho', cmQ, hd]
          rw [W.on_out]; rfl
        rw [eq] at hk
        obtain ⟨t', h', a1, a2, a3, a4⟩ := comm_region (id := id) hcf ho (compCm_ok P _) (k := fun _ t h => (nx .zero).out cf t [] h k) hk
        have hdm : dm = 0 := Nat.eq_of_beq_eq_true hd
        refine ⟨.normal, .zero, t', [], h', fun k' => by rw [eq]; exact a1 fun _ t h => (nx .zero).out cf t [] h k', LayOk.zero _ _, fun m _ hb => (by rw [hdm, bitN_zero] at hb; cases hb), a2, a3, fun ρ a w w0 Q A R hQ => ?_⟩
        exact a4 ρ a w w0 Q (A.weak hl hi) R fun ρ' a' w' l1 A' R' => hQ ρ' a' w' l1 A'.of_zero R'
  | true =>
    cases hd1 : (edgesUp 0 ops.toList && ops.toList.all fun o => !isSel o.op) with
    | false =>
      have e : rgQ P nt dm am ops.toList true l nx = badQ := by simp only [rgQ, hd1]
      simp only [e] at hk; exact Bool.noConfusion hk
    | true =>
    cases ho : ops.toList.all fun o => !handB dm o.dst with
    | false =>
      have e : rgQ P nt dm am ops.toList true l nx = badQ := by simp only [rgQ, hd1, ho]
      simp only [e] at hk; exact Bool.noConfusion hk
    | true =>
    cases hd2 : allQ (ops.toList.zipIdx.map (rwOf P ops.toList (befs ops.toList []))) with
    | false =>
      have e : rgQ P nt dm am ops.toList true l nx = badQ := by simp only [rgQ, hd1, ho, befsR_eq, rowsR_eq, hd2]
      simp only [e] at hk; exact Bool.noConfusion hk
    | true =>
      have hd : drawsOk ops.toList = true := drawsOk_of hd1 hd2
      have e0 : rgQ P nt dm am ops.toList true l nx = dcQ (barAt P ops.toList (befs ops.toList [])) P nt ops.toList (nx .zero) (chainOf P (barAt P ops.toList (befs ops.toList [])) (befs ops.toList []) ops.toList) := by
        simp only [rgQ, hd1, ho, befsR_eq, rowsR_eq, hd2, barsR_eq, barL_eq]
      simp only [e0] at hk ⊢
      cases hc : chainOf P (barAt P ops.toList (befs ops.toList [])) (befs ops.toList []) ops.toList with
      | none =>
        rw [hc] at hk
        cases hops : ops.toList with
        | nil =>
          have eq : ∀ k', (dcQ (barAt P ops.toList (befs ops.toList [])) P nt ops.toList (nx .zero) none).out cf t e h k' = (nx .zero).out cf t e h k' := fun k' => by rw [hops]; rfl
          have hk0 : execDr cf (compOpsWith (barAt P ops.toList (befs ops.toList [])) P nt ops.toList (compOp P) 0 ops.toList) t h (fun _ _ => true) = true := by rw [hops]; rfl
          obtain ⟨t', h', a1, a2, a3, a4⟩ := draws_ok hm hcf hd hk0
          have hth : t' = t ∧ h' = h := by
            have := a1 fun y g => @decide (y = t ∧ g = h) (Classical.propDecidable _)
            rw [hops] at this
            have := this.symm.trans (@decide_eq_true _ (Classical.propDecidable _) ⟨rfl, rfl⟩)
            exact @of_decide_eq_true _ (Classical.propDecidable _) this
          obtain ⟨rfl, rfl⟩ := hth
          refine ⟨.normal, .zero, t', e, h', fun k' => by rw [← hops]; exact eq k', LayOk.zero _ _, hi, a2, a3, fun ρ a w w0 Q A R hQ => ?_⟩
          exact a4 ρ a w w0 id Q (A.weak hl hi) R fun ρ' a' w' l1 A' R' => hQ ρ' a' w' l1 A'.of_zero R'
        | cons o r =>
          have eq : ∀ k', (dcQ (barAt P ops.toList (befs ops.toList [])) P nt ops.toList (nx .zero) none).out cf t e h k' = execDr cf (compOpsWith (barAt P ops.toList (befs ops.toList [])) P nt ops.toList (compOp P) 0 ops.toList) t h fun t h => (nx .zero).out cf t [] h k' := by
            intro k'
            have := drQ_eq (barAt P ops.toList (befs ops.toList [])) P nt ops.toList (nx .zero) cf k' ops.toList 0 t h
            rw [← this]
            show (drQ (barAt P ops.toList (befs ops.toList [])) P nt ops.toList (nx .zero) 0 ops.toList).out cf t e h k' = _
            have h2 := drQ_any (barAt P ops.toList (befs ops.toList [])) P nt ops.toList (nx .zero) 0 o r cf t e h k'
            rw [← hops] at h2
            exact h2
          rw [eq] at hk
          obtain ⟨t', h', a1, a2, a3, a4⟩ := draws_ok hm hcf hd hk
          obtain ⟨t2, h2, b1, b2⟩ := dr_fr hcf _ _ _ _ _ _ hk
          have hth : t2 = t' := by
            have := (a1 fun y _ => @decide (y = t') (Classical.propDecidable _)).symm.trans (b1 _)
            have := this.symm.trans (@decide_eq_true _ (Classical.propDecidable _) rfl)
            exact @of_decide_eq_true _ (Classical.propDecidable _) this
          subst hth
          refine ⟨.normal, .zero, t2, [], h', fun k' => by rw [← hops, eq, a1]; rfl, LayOk.zero _ _, clr_of ho hi b2, a2, a3, fun ρ a w w0 Q A R hQ => ?_⟩
          exact a4 ρ a w w0 id Q (A.weak hl hi) R fun ρ' a' w' l1 A' R' => hQ ρ' a' w' l1 A'.of_zero R'
      | some cs =>
        obtain ⟨ld, cs⟩ := cs
        rw [hc] at hk
        have eq : ∀ k', (dcQ (barAt P ops.toList (befs ops.toList [])) P nt ops.toList (nx .zero) (some (ld, cs))).out cf t e h k' = execCh cf (compOpsWith (barAt P ops.toList (befs ops.toList [])) P nt ops.toList (compOp P) 0 ops.toList) cs t h fun t h => (nx .zero).out cf t [] h k' := by
          intro k'
          exact dcQ_some _ P nt ops.toList (nx .zero) ld cs cf t e h k'
        rw [eq] at hk
        obtain ⟨t', h', a1, a2, a3, a4⟩ := drawsCh_ok hm hcf hd hc _ hk
        have hk2 : chRun cf (compOpsWith (barAt P ops.toList (befs ops.toList [])) P nt ops.toList (compOp P) 0 ops.toList) t h (fun l t1 h1 => chChk cf (compOpsWith (barAt P ops.toList (befs ops.toList [])) P nt ops.toList (compOp P) 0 ops.toList) ((t, h) :: l) cs fun _ => (nx .zero).out cf t1 [] h1 k) = true := hk
        obtain ⟨x, t2, h2, b1, b2⟩ := ch_fr hcf _ _ _ _ _ _ hk2
        have hth : t' = t2 := by
          have c0 : ∀ K : F → H → Bool, chChk cf (compOpsWith (barAt P ops.toList (befs ops.toList [])) P nt ops.toList (compOp P) 0 ops.toList) ((t, h) :: x) cs (fun _ => K t2 h2) = K t' h' := fun K => (b1 fun l t1 h1 => chChk cf (compOpsWith (barAt P ops.toList (befs ops.toList [])) P nt ops.toList (compOp P) 0 ops.toList) ((t, h) :: l) cs fun _ => K t1 h1).symm.trans (a1 K)
          have c1 := c0 fun _ _ => true
          have c2 := c0 fun y _ => @decide (y = t2) (Classical.propDecidable _)
          have c3 : (@decide (t2 = t2) (Classical.propDecidable _)) = true := @decide_eq_true _ (Classical.propDecidable _) rfl
          simp only [c3] at c2
          have := c2.symm.trans c1
          exact @of_decide_eq_true _ (Classical.propDecidable _) this
        subst hth
        refine ⟨.normal, .zero, t', [], h', fun k' => by rw [eq, a1]; rfl, LayOk.zero _ _, clr_of ho hi b2, a2, a3, fun ρ a w w0 Q A R hQ => ?_⟩
        exact a4 ρ a w w0 id Q (A.weak hl hi) R fun ρ' a' w' l1 A' R' => hQ ρ' a' w' l1 A'.of_zero R'
theorem cnV_ok {a b : StF} {cf : CallF} {t : F} {e : E} {h : H} {k : K} {v : V} (hk : cnV a b cf t e h k v = true) : ∃ x, v = .b x ∧ ∀ k', cnV a b cf t e h k' v = (bif x then a cf t e h k' else b cf t e h k') := by
  cases v <;> try exact Bool.noConfusion hk
  rename_i x
  exact ⟨x, rfl, fun k' => by cases x <;> rfl⟩
/-- what is told of a loop's turns -/
theorem loop_q {P : Program} {cf : CallF} {nt dm : Nat} {c : Code} {w : Lay → (Lay → W StF) → W StF} (hc : QOk P cf nt dm c w) : ∀ n (t : F) (e : E) (h : H) (k : K), Clr dm t → lpQ (w .zero fun _ => endQ).out n cf t e h k = true →
    ∃ x t' h', (∀ k', lpQ (w .zero fun _ => endQ).out n cf t e h k' = k' x t' h') ∧ x ≠ .normal ∧ Clr dm t' ∧ KeepF h h' ∧ B.val h.next ≤ B.val h'.next ∧ LoopSound P nt c t h x t' h' := by
  intro n
  induction n with
  | zero => intro t e h k hi hk; exact Bool.noConfusion hk
  | succ n ih =>
    intro t e h k hi hk
    have eq : ∀ k', lpQ (w .zero fun _ => endQ).out (n + 1) cf t e h k' = (w .zero fun _ => endQ).out cf t e h (lpK (lpQ (w .zero fun _ => endQ).out n) cf k') := fun _ => rfl
    rw [eq] at hk
    obtain ⟨x, l1, t1, e1, h1, a1, a5, a6, a2, a3, a4⟩ := hc (fun _ => endQ) .zero t e h _ (LayOk.zero dm e) hi hk
    rw [a1] at hk
    have a4' : ∀ ρ a w w0 (Q : Exit → Act → World → Prop), ARel ρ nt t a → HRel ρ h w w0 → (∀ ρ' a' w', Ext h.floor ρ ρ' → ARel ρ' nt t1 a' → HRel ρ' h1 w' w0 → Q (xOf x) a' w') → c.wp P Q a w :=
      fun ρ a w w0 Q A R hQ => a4 ρ a w w0 Q A.of_zero R fun ρ' a' w' l1 A' R' => hQ ρ' a' w' l1 (A'.weak a5 a6) R'
    cases x with
    | normal =>
      have e2 : ∀ k', aft endQ cf (lpK (lpQ (w .zero fun _ => endQ).out n) cf k') .normal t1 e1 h1 = lpQ (w .zero fun _ => endQ).out n cf t1 [] h1 k' := fun _ => rfl
      rw [e2] at hk
      obtain ⟨x2, t2, h2, b1, b5, b6, b2, b3, b4⟩ := ih t1 [] h1 k a6 hk
      refine ⟨x2, t2, h2, fun k' => by rw [eq, a1, e2, b1], b5, b6, KeepF.trans a2 a3 b2, Nat.le_trans a3 b3, fun ρ a w w0 Q A R hQ => ?_⟩
      refine loopArr_of (a4' ρ a w w0 _ A R fun ρ' a' w' l1 A' R' => ?_)
      exact b4 ρ' a' w' w0 Q A' R' fun ρ'' a'' w'' l2 A'' R'' => hQ ρ'' a'' w'' (l1.trans (by rw [← a2.1]; exact l2)) A'' R''
    | exit id =>
      refine ⟨.exit id, t1, h1, fun k' => by rw [eq, a1]; rfl, (fun h => by cases h), a6, a2, a3, fun ρ a w w0 Q A R hQ => ?_⟩
      exact loopArr_of (a4' ρ a w w0 _ A R fun ρ' a' w' l1 A' R' => hQ ρ' a' w' l1 A' R')
    | ret =>
      refine ⟨.ret, t1, h1, fun k' => by rw [eq, a1]; rfl, (fun h => by cases h), a6, a2, a3, fun ρ a w w0 Q A R hQ => ?_⟩
      exact loopArr_of (a4' ρ a w w0 _ A R fun ρ' a' w' l1 A' R' => hQ ρ' a' w' l1 A' R')
/-- with what is at hand dropped, or not -/
theorem drop_q {P : Program} {cf : CallF} {nt dm : Nat} {c : Code} {w : Lay → (Lay → W StF) → W StF} (hc : QOk P cf nt dm c w) (b : Bool) : QOk P cf nt dm c fun l nx => w l (dropN b nx) := by
  intro nx l t e h k hl hi hk
  obtain ⟨x, l', t', e', h', a1, a5, a6, a2, a3, a4⟩ := hc (dropN b nx) l t e h k hl hi hk
  cases b with
  | true => exact ⟨x, l', t', e', h', a1, a5, a6, a2, a3, a4⟩
  | false => exact ⟨x, .zero, t', e', h', a1, LayOk.zero _ _, a6, a2, a3, fun ρ a w w0 Q A R hQ => a4 ρ a w w0 Q A R fun ρ' a' w' l1 A' R' => hQ ρ' a' w' l1 (A'.zero a5 a6) R'⟩
theorem code_q {P : Program} (hm : P.follows .mixedOrders = true) {cf : CallF} (hcf : CfOk P cf) (nt dm am : Nat) : ∀ c, QOk P cf nt dm c (sC P nt dm am c) := by
  intro c
  induction c with
  | skip => intro nx l t e h k hl hi hk; exact ⟨.normal, l, t, e, h, fun _ => rfl, hl, hi, KeepF.refl h, Nat.le_refl _, fun ρ a w w0 Q A R hQ => wp_skip (hQ ρ a w (Ext.refl _ ρ) A R)⟩
  | label s => intro nx l t e h k hl hi hk; exact ⟨.normal, l, t, e, h, fun _ => rfl, hl, hi, KeepF.refl h, Nat.le_refl _, fun ρ a w w0 Q A R hQ => wp_label (hQ ρ a w (Ext.refl _ ρ) A R)⟩
  | exit id => intro nx l t e h k hl hi hk; exact ⟨.exit id, l, t, e, h, fun _ => rfl, hl, hi, KeepF.refl h, Nat.le_refl _, fun ρ a w w0 Q A R hQ => wp_exit (hQ ρ a w (Ext.refl _ ρ) A R)⟩
  | ret => intro nx l t e h k hl hi hk; exact ⟨.ret, l, t, e, h, fun _ => rfl, hl, hi, KeepF.refl h, Nat.le_refl _, fun ρ a w w0 Q A R hQ => wp_ret (hQ ρ a w (Ext.refl _ ρ) A R)⟩
  | goto l => exact badQ_ok
  | refuse s => exact badQ_ok
  | rangeFunc f ps x y ihx ihy => exact badQ_ok
  | region id ops draw => exact region_q hm hcf nt dm am id ops draw
  | scope c ihc =>
    intro nx l t e h k hl hi hk
    obtain ⟨x, l', t', e', h', a1, a5, a6, a2, a3, a4⟩ := ihc nx l t e h k hl hi hk
    refine ⟨x, l', t', e', h', a1, a5, a6, a2, a3, fun ρ a w w0 Q A R hQ => wp_scope_straight (a4 ρ a w w0 _ A R fun ρ' a' w' l1 A' R' => ?_)⟩
    have := hQ ρ' a' w' l1 A' R'
    cases x <;> exact this
  | loop c ihc =>
    intro nx l t e h k hl hi hk
    have eq : ∀ k', (sC P nt dm am (.loop c) l nx).out cf t e h k' = lpQ (sC P nt dm am c .zero fun _ => endQ).out 1000000 cf t e h k' := fun k' => by
      show (W.on (sC P nt dm am c .zero fun _ => endQ) fun a => ⟨lpQ a 1000000⟩).out cf t e h k' = _
      rw [W.on_out]; rfl
    rw [eq] at hk
    obtain ⟨x, t', h', a1, a5, a6, a2, a3, a4⟩ := loop_q ihc 1000000 t e h k hi hk
    refine ⟨x, .zero, t', [], h', fun k' => by rw [eq, a1]; cases x <;> first | rfl | exact absurd rfl a5, LayOk.zero _ _, a6, a2, a3, fun ρ a w w0 Q A R hQ => wp_loop_of (a4 ρ a w w0 Q (A.weak hl hi) R fun ρ' a' w' l1 A' R' => hQ ρ' a' w' l1 A'.of_zero R')⟩
  | seq c1 c2 ih1 ih2 =>
    intro nx l t e h k hl hi hk
    obtain ⟨x, l1, t1, e1, h1, a1, a5, a6, a2, a3, a4⟩ := ih1 (fun l => sC P nt dm am c2 l nx) l t e h k hl hi hk
    have eq : ∀ k', (sC P nt dm am (.seq c1 c2) l nx).out cf t e h k' = (sC P nt dm am c1 l fun l => sC P nt dm am c2 l nx).out cf t e h k' := fun _ => rfl
    rw [eq, a1] at hk
    cases x with
    | normal =>
      have e2 : ∀ k', aft (sC P nt dm am c2 l1 nx) cf k' .normal t1 e1 h1 = (sC P nt dm am c2 l1 nx).out cf t1 e1 h1 k' := fun _ => rfl
      rw [e2] at hk
      obtain ⟨x2, l2, t2, e2', h2, b1, b5, b6, b2, b3, b4⟩ := ih2 nx l1 t1 e1 h1 k a5 a6 hk
      refine ⟨x2, l2, t2, e2', h2, fun k' => by rw [eq, a1, e2, b1], b5, b6, KeepF.trans a2 a3 b2, Nat.le_trans a3 b3, fun ρ a w w0 Q A R hQ => ?_⟩
      refine wp_seq (a4 ρ a w w0 _ A R fun ρ' a' w' l1 A' R' => ?_)
      exact b4 ρ' a' w' w0 Q A' R' fun ρ'' a'' w'' l2 A'' R'' => hQ ρ'' a'' w'' (l1.trans (by rw [← a2.1]; exact l2)) A'' R''
    | exit id =>
      refine ⟨.exit id, l1, t1, e1, h1, fun k' => by rw [eq, a1]; rfl, a5, a6, a2, a3, fun ρ a w w0 Q A R hQ => ?_⟩
      exact wp_seq (a4 ρ a w w0 _ A R fun ρ' a' w' l1 A' R' => hQ ρ' a' w' l1 A' R')
    | ret =>
      refine ⟨.ret, l1, t1, e1, h1, fun k' => by rw [eq, a1]; rfl, a5, a6, a2, a3, fun ρ a w w0 Q A R hQ => ?_⟩
      exact wp_seq (a4 ρ a w w0 _ A R fun ρ' a' w' l1 A' R' => hQ ρ' a' w' l1 A' R')
  | cond c c1 c2 ih1 ih2 =>
    intro nx l t e h k hl hi hk
    have eq : ∀ k', (sC P nt dm am (.cond c c1 c2) l nx).out cf t e h k' = cnV (sC P nt dm am c1 l (dropN (nev c2) nx)).out (sC P nt dm am c2 l (dropN (nev c1) nx)).out cf t e h k' (oV (compO c) (star l t e)) := fun k' => by
      show (W.on (rQ l.ls l.al c) fun c => W.on (sC P nt dm am c1 l (dropN (nev c2) nx)) fun a => W.on (sC P nt dm am c2 l (dropN (nev c1) nx)) fun b => ⟨fun cf t e h k => c t e (cnV a b cf t e h k)⟩).out cf t e h k' = _
      rw [W.on_out, W.on_out, W.on_out, W.mk_out, rQ_sees hl c]
    rw [eq] at hk
    obtain ⟨b, hb, hc⟩ := cnV_ok hk
    rw [hc] at hk
    have hev : ∀ ρ a, ARel ρ nt (star l t e) a → a.eval c = .bool b := fun ρ a A => by
      have := opnd_rel A c
      rw [hb] at this; exact this
    cases b with
    | true =>
      obtain ⟨x, l1, t1, e1, h1, a1, a5, a6, a2, a3, a4⟩ := drop_q ih1 (nev c2) nx l t e h k hl hi hk
      exact ⟨x, l1, t1, e1, h1, fun k' => by rw [eq, hc]; exact a1 k', a5, a6, a2, a3, fun ρ a w w0 Q A R hQ => wp_cond_true (hev ρ a A) (a4 ρ a w w0 Q A R hQ)⟩
    | false =>
      obtain ⟨x, l1, t1, e1, h1, a1, a5, a6, a2, a3, a4⟩ := drop_q ih2 (nev c1) nx l t e h k hl hi hk
      exact ⟨x, l1, t1, e1, h1, fun k' => by rw [eq, hc]; exact a1 k', a5, a6, a2, a3, fun ρ a w w0 Q A R hQ => wp_cond_false (hev ρ a A) (a4 ρ a w w0 Q A R hQ)⟩
  | block id c ihc =>
    intro nx l t e h k hl hi hk
    have eq : ∀ k', (sC P nt dm am (.block id c) l nx).out cf t e h k' = (sC P nt dm am c l fun _ => endQ).out cf t e h (blkQ id (nx .zero).out cf k') := fun k' => by
      show (W.on (sC P nt dm am c l fun _ => endQ) fun a => W.on (nx .zero) fun nx => ⟨fun cf t e h k => a cf t e h (blkQ id nx cf k)⟩).out cf t e h k' = _
      rw [W.on_out, W.on_out]; rfl
    rw [eq] at hk
    obtain ⟨x, l1, t1, e1, h1, a1, a5, a6, a2, a3, a4⟩ := ihc (fun _ => endQ) l t e h _ hl hi hk
    cases x with
    | normal => exact ⟨.normal, .zero, t1, [], h1, fun k' => by rw [eq, a1]; rfl, LayOk.zero _ _, a6, a2, a3, fun ρ a w w0 Q A R hQ => wp_block (a4 ρ a w w0 _ A R fun ρ' a' w' l1 A' R' => hQ ρ' a' w' l1 (A'.zero a5 a6) R')⟩
    | ret => exact ⟨.ret, .zero, t1, [], h1, fun k' => by rw [eq, a1]; rfl, LayOk.zero _ _, a6, a2, a3, fun ρ a w w0 Q A R hQ => wp_block (a4 ρ a w w0 _ A R fun ρ' a' w' l1 A' R' => hQ ρ' a' w' l1 (A'.zero a5 a6) R')⟩
    | exit j =>
      have e2 : ∀ k', aft endQ cf (blkQ id (nx .zero).out cf k') (.exit j) t1 e1 h1 = Bool.rec (motive := fun _ => Nat → StF → CallF → K → F → H → Bool) (fun j _ _ k t h => k (.exit j) t h) (fun _ n cf k t h => n cf t [] h k) (Nat.beq j id) j (nx .zero).out cf k' t1 h1 := fun _ => rfl
      cases hj : Nat.beq j id with
      | true =>
        have hji : j = id := Nat.eq_of_beq_eq_true hj
        refine ⟨.normal, .zero, t1, [], h1, fun k' => by rw [eq, a1, e2, hj]; rfl, LayOk.zero _ _, a6, a2, a3, fun ρ a w w0 Q A R hQ => wp_block (a4 ρ a w w0 _ A R fun ρ' a' w' l1 A' R' => ?_)⟩
        show (if j = id then Q .normal a' w' else Q (.exit j) a' w')
        rw [if_pos hji]; exact hQ ρ' a' w' l1 (A'.zero a5 a6) R'
      | false =>
        have hji : ¬ j = id := fun h => by rw [h] at hj; simp at hj
        refine ⟨.exit j, .zero, t1, [], h1, fun k' => by rw [eq, a1, e2, hj]; rfl, LayOk.zero _ _, a6, a2, a3, fun ρ a w w0 Q A R hQ => wp_block (a4 ρ a w w0 _ A R fun ρ' a' w' l1 A' R' => ?_)⟩
        show (if j = id then Q .normal a' w' else Q (.exit j) a' w')
        rw [if_neg hji]; exact hQ ρ' a' w' l1 (A'.zero a5 a6) R'
theorem rsQ_eq (r : Rs) (t : F) (h : H) (k : V → Bool) : (rsQ r).out t h k = rsK r t h k := by
  cases r with
  | tmp s =>
    show (W.on (gq s) fun g => ⟨fun t _ k => g t [] k⟩).out t h k = forceV (sGet s t) k
    rw [W.on_out, W.mk_out, gq_out, forceV_eq]
  | cell s size =>
    show (W.on (gq s) fun g => ⟨fun t h k => g t [] (ldV h fun v _ => k v)⟩).out t h k = vP (sGet s t) fun id g off fin => load1 h id g off fin k
    rw [W.on_out, W.mk_out, gq_out, ldV_eq]
  | cellA s size => rfl
  | no => rfl
theorem rtQ_eq (rs : List Rs) (t : F) (h : H) (k : V → H → Bool) : (rtQ rs).out t h k = resK rs t h fun vs => forceV (one vs) fun v => k v h := by
  match rs with
  | [] => rfl
  | [r] =>
    show (W.on (rsQ r) fun g => ⟨fun t h k => g t h fun v => k v h⟩).out t h k = rsK r t h fun v => forceV (one [v]) fun v => k v h
    rw [W.on_out, W.mk_out, rsQ_eq]; congr 1; funext v; rw [forceV_eq]; rfl
  | [r, s] =>
    show (W.on (rsQ r) fun f => W.on (rsQ s) fun g => ⟨fun t h k => f t h fun v => g t h fun w => k (.tu [v, w]) h⟩).out t h k = rsK r t h fun v => rsK s t h fun w => forceV (one [v, w]) fun v => k v h
    rw [W.on_out, W.on_out, W.mk_out, rsQ_eq]; congr 1; funext v; rw [rsQ_eq]; congr 1
  | r :: s :: u :: l => rfl
theorem rK_eq (rs : List Rs) (k : V → H → Bool) : rK (rtQ rs).out k = retK rs k := by
  funext x t h
  cases x with
  | normal => exact rtQ_eq rs t h k
  | exit id => rfl
  | ret => exact rtQ_eq rs t h k
/-- the room for the arguments; none of them is a slot that is kept at hand -/
theorem arF_eq (args : List V) (nt dm : Nat) (k : F → Bool) : arF args nt dm k = ifK (roomQ args.length nt dm) fun _ => ifK (Nat.ble args.length 512) fun _ => slots args 0 F.zero k := by
  have r0 : roomQ 0 nt dm = true := by
    show bAnd (Nat.ble 0 nt) (Nat.beq (dm % 2 ^ 0) 0) = true
    rw [bAnd_eq, show dm % 2 ^ 0 = 0 by simp [Nat.mod_one]]
    cases nt <;> rfl
  match args with
  | [] => show _ = ifK (roomQ 0 nt dm) _; rw [r0]; rfl
  | [a] =>
    show Bool.rec (motive := fun _ => V → (F → Bool) → Bool) _ _ (roomQ 1 nt dm) a k = ifK (roomQ 1 nt dm) _
    cases roomQ 1 nt dm <;> rfl
  | [a, b] =>
    show Bool.rec (motive := fun _ => V → V → (F → Bool) → Bool) _ _ (roomQ 2 nt dm) a b k = ifK (roomQ 2 nt dm) _
    cases roomQ 2 nt dm <;> rfl
  | [a, b, c] =>
    show Bool.rec (motive := fun _ => V → V → V → (F → Bool) → Bool) _ _ (roomQ 3 nt dm) a b c k = ifK (roomQ 3 nt dm) _
    cases roomQ 3 nt dm <;> rfl
  | [a, b, c, d] =>
    show Bool.rec (motive := fun _ => V → V → V → V → (F → Bool) → Bool) _ _ (roomQ 4 nt dm) a b c d k = ifK (roomQ 4 nt dm) _
    cases roomQ 4 nt dm <;> rfl
  | a :: b :: c :: d :: e :: r => rfl
theorem roomQ_ok {n nt dm : Nat} (h : roomQ n nt dm = true) : Nat.ble n nt = true ∧ ∀ m, m < n → bitN dm m = false := by
  unfold roomQ at h
  rw [bAnd_eq, Bool.and_eq_true] at h
  refine ⟨h.1, fun m hm => ?_⟩
  have h2 : dm % 2 ^ n = 0 := Nat.eq_of_beq_eq_true h.2
  rw [bitN_eq]
  have := Nat.testBit_mod_two_pow dm n m
  rw [h2] at this
  simpa [hm] using this.symm
theorem mkQF_eq (nt dm : Nat) (b : W StF) (r : W Rq) : mkQF nt dm b r = ⟨nt, dm, b.out, r.out⟩ := by cases b; cases r; rfl
end
/-- a function's code, run whether it is known or not -/
noncomputable def bodyK (cf : CallF) (vs : List V) (h : H) (k : V → H → Bool) (q : QF) : Bool :=
  QF.rec (motive := fun _ => CallF → List V → H → (V → H → Bool) → Bool) (fun nt dm b r cf args h k => arF args nt dm fun t => b cf t [] h (rK r k)) q cf vs h k
theorem fnQ_wp {hs : Hints} {P : Program} (hm : P.follows .mixedOrders = true) {cf : CallF} (ih : CfOk P cf) {f : FuncId} {vs : List V} {h : H} {k : V → H → Bool} (hk : bodyK cf vs h k (qFn hs P f) = true) :
    ∃ v h', (∀ k', bodyK cf vs h k' (qFn hs P f) = k' v h') ∧ KeepF h h' ∧ B.val h.next ≤ B.val h'.next ∧ ∃ fn body, P.funcs[f]? = some fn ∧ fn.body = some body ∧
      ∀ ρ w w0 args, LRel ρ vs args → HRel ρ h w w0 → (callFunc f args.toArray).run P w = .ok (.enter f args.toArray) w ∧
        body.wp P (bodyPost P fn fun e w' => ∃ x, e = .returned x ∧ Done h.floor ρ w0 v h' x w') { tmps := args.toArray ++ Array.replicate (fn.ntmps - args.toArray.size) undef, defers := [] } w := by
  have hbad : ∀ k', bodyK cf vs h k' noQF ≠ true := by
    intro k' hk
    have hk' : (arF vs 0 0 fun _ => false) = true := hk
    rw [arF_eq] at hk'
    obtain ⟨hb, hk'⟩ := ifK_ok hk'
    obtain ⟨_, hk'⟩ := ifK_ok hk'
    have hl : vs.length ≤ 0 := Nat.le_of_ble_eq_true (roomQ_ok hb).1
    obtain ⟨t', s1, _⟩ := slots_ok vs 0 F.zero (fun _ => true) (by omega)
    rw [s1] at hk'
    exact Bool.noConfusion hk'
  rcases hhs : hs f with ⟨dm, am⟩
  have eh : qFn hs P f = qFn2 P f dm am := by unfold qFn; rw [hhs]
  rw [eh] at hk ⊢
  cases hfn : P.funcs.toList[f]? with
  | none =>
    have hc : qFn2 P f dm am = noQF := by simp only [qFn2, lg_eq, hfn]
    rw [hc] at hk; exact absurd hk (hbad k)
  | some fn =>
    have hfn' : P.funcs[f]? = some fn := by simpa using hfn
    cases hbd : fn.body with
    | none =>
      have hc : qFn2 P f dm am = noQF := by simp only [qFn2, lg_eq, hfn, hbd]
      rw [hc] at hk; exact absurd hk (hbad k)
    | some body =>
      cases hnm : (fn.name == "runtime.NumGoroutine") with
      | true =>
        have hc : qFn2 P f dm am = noQF := by simp only [qFn2, lg_eq, hfn, hbd, hnm]
        rw [hc] at hk; exact absurd hk (hbad k)
      | false =>
        have hc : qFn2 P f dm am = ⟨fn.ntmps, dm, (sC P fn.ntmps dm am body .zero fun _ => endQ).out, (rtQ (fn.results.toList.map (rsOf P))).out⟩ := by simp only [qFn2, lg_eq, hfn, hbd, hnm]; exact mkQF_eq _ _ _ _
        have e' : ∀ k', bodyK cf vs h k' (qFn2 P f dm am) = (ifK (roomQ vs.length fn.ntmps dm) fun _ => ifK (Nat.ble vs.length 512) fun _ => slots vs 0 F.zero fun t => (sC P fn.ntmps dm am body .zero fun _ => endQ).out cf t [] h (retK (fn.results.toList.map (rsOf P)) k')) := by
          intro k'; rw [hc, ← rK_eq, ← arF_eq]; rfl
        rw [e'] at hk
        obtain ⟨hroom, hk⟩ := ifK_ok hk
        obtain ⟨hr1, hr2⟩ := roomQ_ok hroom
        have hk2 : (ifK (Nat.ble vs.length fn.ntmps) fun _ => ifK (Nat.ble vs.length 512) fun _ => slots vs 0 F.zero fun t => (fun t h k => (sC P fn.ntmps dm am body .zero fun _ => endQ).out cf t [] h k) t h (retK (fn.results.toList.map (rsOf P)) k)) = true := by rw [hr1]; exact hk
        obtain ⟨h512, hk3⟩ := ifK_ok hk
        have hl2 : vs.length ≤ 512 := Nat.le_of_ble_eq_true h512
        obtain ⟨t0, s1, s2, s3⟩ := slots_ok vs 0 F.zero (fun _ => true) (by omega)
        have hclr : Clr dm t0 := fun m hm hb => by
          rw [s3 m hm (.inr ?_), zero_slot]
          rw [Nat.zero_add]
          refine Nat.le_of_not_lt fun h => ?_
          rw [hr2 m h] at hb; cases hb
        rw [s1] at hk3
        obtain ⟨v, h', b1, b2⟩ := fnRun_wp hfn' hbd hnm (run := fun t h k => (sC P fn.ntmps dm am body .zero fun _ => endQ).out cf t [] h k) (fun t => Clr dm t) (fun t h k hi hk => by
          obtain ⟨x, l', t', e', h', a1, a5, a6, a2, a3, a4⟩ := code_q hm ih fn.ntmps dm am body (fun _ => endQ) .zero t [] h k (LayOk.zero _ _) hi hk
          exact ⟨x, t', h', fun k' => by show (sC P fn.ntmps dm am body .zero fun _ => endQ).out cf t [] h k' = _; rw [a1]; cases x <;> rfl, a2, a3, fun ρ a w w0 Q A R hQ => a4 ρ a w w0 Q A.of_zero R fun ρ' a' w' l1 A' R' => hQ ρ' a' w' l1 (A'.weak a5 a6) R'⟩) vs h k (fun t ht => by
            have := ht fun y => @decide (y = t0) (Classical.propDecidable _)
            rw [s1] at this
            have := this.symm.trans (@decide_eq_true _ (Classical.propDecidable _) rfl)
            have := @of_decide_eq_true _ (Classical.propDecidable _) this
            subst this; exact hclr) hk2
        exact ⟨v, h', fun k' => by rw [e', hroom, ← b1 k', hr1], b2.1, b2.2.1, fn, body, hfn', hbd, b2.2.2⟩
theorem cfQ_ok {hs : Hints} {tb : Nat → Option Sp} {P : Program} (htb : TbOk P tb) (hm : P.follows .mixedOrders = true) : ∀ n, CfOk P (cfQ hs tb P n) := by
  intro n
  induction n with
  | zero => intro f vs h k hk; exact Bool.noConfusion hk
  | succ n ih =>
    intro f vs h k hk
    cases htf : tb f with
    | some g =>
      have e : ∀ k', cfQ hs tb P (n + 1) f vs h k' = g vs h k' := fun k' => by
        show Option.rec (motive := fun _ => CallF → CallF) _ _ (tb f) (cfQ hs tb P n) f vs h k' = _
        rw [htf]
      rw [e] at hk
      obtain ⟨v, h', a1, a2⟩ := htb f g htf vs h k hk
      exact ⟨v, h', fun k' => by rw [e, a1], a2⟩
    | none =>
      have e : ∀ k', cfQ hs tb P (n + 1) f vs h k' = bodyK (cfQ hs tb P n) vs h k' (qFn hs P f) := fun k' => by
        show Option.rec (motive := fun _ => CallF → CallF) _ _ (tb f) (cfQ hs tb P n) f vs h k' = _
        rw [htf]; rfl
      rw [e] at hk
      obtain ⟨v, h', b1, b2, b3, fn, body, b4, b5, b6⟩ := fnQ_wp hm ih hk
      exact ⟨v, h', fun k' => by rw [e, b1], b2, b3, fun ρ w w0 args hargs R => ⟨(b6 ρ w w0 args hargs R).1, calls_of_wp b4 b5 (b6 ρ w w0 args hargs R).2⟩⟩
/-- WHAT A QUICK RUN SAYS: where the quick evaluator comes to 'true', so does the model's call, whatever the world, and of what was there nothing turns. -/
theorem runsQ {hs : Hints} {tb : Nat → Option Sp} {P : Program} (htb : TbOk P tb) (hm : P.follows .mixedOrders = true) {n : Nat} {f : FuncId} {vs : List V} (h : runQ hs tb P n f vs = true) {args : List Value} (ha : LRel noEmb vs args) (w : World) :
    (callFunc f args.toArray).run P w = .ok (.enter f args.toArray) w ∧ Calls P f args.toArray w fun e w' => e = .returned (.bool true) ∧ Same w w' := by
  obtain ⟨v, h', h1, h2, h3, h4⟩ := cfQ_ok (hs := hs) htb hm n f vs H.zero isTrue h
  have ht : isTrue v h' = true := by
    have := h1 isTrue
    rw [← this]; exact h
  obtain ⟨b, hb, hbt⟩ := vB_ok ht
  obtain ⟨c1, c2⟩ := h4 noEmb w w args ha (zero_rel0 w)
  refine ⟨c1, c2.mono fun e w' he => ?_⟩
  obtain ⟨x, rfl, ρ', _, x2, x3⟩ := he
  rw [hb] at x2
  have x2' : x = .bool b := x2
  rw [x2', hbt]
  exact ⟨rfl, x3.same⟩
/-- a function without parameters that was run once need not be run again -/
theorem pureQ_of {hs : Hints} {tb : Nat → Option Sp} {P : Program} (htb : TbOk P tb) (hm : P.follows .mixedOrders = true) {n : Nat} {f : FuncId} (h : runQ hs tb P n f [] = true) : PureTrue P f :=
  fun w => runsQ htb hm h (args := []) trivial w
end Go.Ev

set_option linter.all false
namespace Go.Ev
open Go
abbrev DsQ := List (Nat × List V)
abbrev KqD := X → F → H → DsQ → Bool
abbrev StqD := CallF → F → H → DsQ → KqD → Bool
noncomputable def plD (w : W StF) : W StqD := W.on w fun s => ⟨fun cf t h ds k => s cf t [] h fun x t h => k x t h ds⟩
noncomputable def thenQ (b : StqD) (cf : CallF) (k : KqD) (x : X) (t : F) (h : H) (ds : DsQ) : Bool := X.rec (b cf t h ds k) (fun id => k (.exit id) t h ds) (k .ret t h ds) x
noncomputable def sqD (a b : W StqD) : W StqD := W.on a fun a => W.on b fun b => ⟨fun cf t h ds k => a cf t h ds (thenQ b cf k)⟩
noncomputable def cdD (c : O) (a b : W StqD) : W StqD := W.on a fun a => W.on b fun b => ⟨fun cf t h ds k => vB (oV c t) fun x => Bool.rec (b cf t h ds k) (a cf t h ds k) x⟩
/-- a row whose last operation defers a call -/
def lastD : List Oper → Option (List Oper × Nat × List Operand)
  | [] => none
  | o :: r => match r, o with
    | [], ⟨none, .defer ⟨.value (.func g), args, _⟩, _, _, _, none⟩ => some ([], g, args.toList)
    | [], _ => none
    | r, o => (lastD r).map fun p => (o :: p.1, p.2)
noncomputable def dfD (P : Program) (nt : Nat) (ops pre : List Oper) (g : Nat) (args : List Operand) : W StqD :=
  W.on (chV P nt 0 0 ops (fun _ => endQ) pre .zero) fun s => ⟨fun cf t h ds k => s cf t [] h fun x t h => evalsK (args.map compO) t fun vs => k x t h ((g, vs) :: ds)⟩
noncomputable def plC (P : Program) (nt : Nat) (c : Code) : W StqD := plD (sC P nt 0 0 c .zero fun _ => endQ)
noncomputable def rgD (P : Program) (nt id : Nat) (ops : Array Oper) (draw : Bool) : W StqD := match draw, lastD ops.toList with
  | false, some (pre, g, args) => dfD P nt ops.toList pre g args
  | _, _ => plC P nt (.region id ops draw)
noncomputable def sqC (P : Program) (nt : Nat) (c : Code) : W StqD :=
  Code.rec (motive := fun _ => W StqD) (plC P nt .skip) (fun id ops draw => rgD P nt id ops draw) (fun _ _ ia ib => sqD ia ib) (fun x _ _ ia ib => cdD (compO x) ia ib)
    (fun id c _ => plC P nt (.block id c)) (fun c _ => plC P nt (.loop c)) (fun f ps a b _ _ => plC P nt (.rangeFunc f ps a b)) (fun id => plC P nt (.exit id)) (fun _ ia => ia)
    (fun s => plC P nt (.label s)) (fun l => plC P nt (.goto l)) (plC P nt .ret) (fun s => plC P nt (.refuse s)) c
/-- what was deferred, the newest first -/
noncomputable def runDs (cfD : CallF) (ds : DsQ) : H → (H → Bool) → Bool := List.rec (fun h k => k h) (fun d _ ih h k => cfD d.1 d.2 h fun _ h => ih h k) ds
noncomputable def retQ (cfD : CallF) (r : Rq) (k : V → H → Bool) (x : X) (t : F) (h : H) (ds : DsQ) : Bool :=
  X.rec (runDs cfD ds h fun h => r t h k) (fun _ => false) (runDs cfD ds h fun h => r t h k) x
structure DqF where
  nt : Nat
  body : StqD
  res : Rq
noncomputable def mkDF (nt : Nat) (b : W StqD) (r : W Rq) : DqF := W.rec (fun b => W.rec (fun r => ⟨nt, b, r⟩) r) b
noncomputable def noDF : DqF := ⟨0, fun _ _ _ _ _ => false, fun _ _ _ => false⟩
noncomputable def dFn (P : Program) (f : Nat) : DqF := match lgQ P.funcs.toList f with
  | none => noDF
  | some fn => match fn.body, fn.name == "runtime.NumGoroutine" with
    | some b, false => mkDF fn.ntmps (sqC P fn.ntmps b) (rtQ (fn.results.toList.map (rsOf P)))
    | _, _ => noDF
noncomputable def dfK (cf cfD : CallF) (args : List V) (h : H) (k : V → H → Bool) (q : DqF) : Bool :=
  DqF.rec (motive := fun _ => Bool) (fun nt b r => arF args nt 0 fun t => b cf t h [] (retQ cfD r k)) q
/-- a function that defers, axs one that is known -/
noncomputable def deferQ (hs : Hints) (tb : Nat → Option Sp) (P : Program) (n f : Nat) : Sp := fun args h k =>
  dfK (cfQ hs tb P n) (fun f vs h k => bodyK (cfQ hs tb P n) vs h k (qFn hs P f)) args h k (dFn P f)
def DqRel (ρ : Emb) : DsQ → List Deferred → Prop
  | [], [] => True
  | d :: ds, D :: Dl => (D.target = .fn (.func d.1) #[] ∧ LRel ρ d.2 D.args.toList) ∧ DqRel ρ ds Dl
  | _, _ => False
theorem DqRel.up {ρ ρ' : Emb} (h : ρ.le ρ') : ∀ {ds : DsQ} {Dl : List Deferred}, DqRel ρ ds Dl → DqRel ρ' ds Dl
  | [], [], _ => trivial
  | _ :: _, _ :: _, a => ⟨⟨a.1.1, LRel.up h a.1.2⟩, DqRel.up h a.2⟩
  | [], _ :: _, a => a.elim
  | _ :: _, [], a => a.elim
def QDOk (P : Program) (cf : CallF) (nt : Nat) (c : Code) (s : StqD) : Prop := ∀ t h ds k, s cf t h ds k = true →
  ∃ x t' h' ds', (∀ k', s cf t h ds k' = k' x t' h' ds') ∧ KeepF h h' ∧ B.val h.next ≤ B.val h'.next ∧
    ∀ ρ (D : List Deferred) a w w0 (Q : Exit → Act → World → Prop), @ARel ⟨D⟩ ρ nt t a → DqRel ρ ds D → HRel ρ h w w0 →
      (∀ ρ' (D' : List Deferred) a' w', Ext h.floor ρ ρ' → @ARel ⟨D'⟩ ρ' nt t' a' → DqRel ρ' ds' D' → HRel ρ' h' w' w0 → Q (xOf x) a' w') → c.wp P Q a w
theorem clr0 (t : F) : Clr 0 t := fun n _ hb => by rw [bitN_zero] at hb; cases hb
theorem aft_end (cf : CallF) (k : K) (x : X) (t : F) (e : E) (h : H) : aft endQ cf k x t e h = k x t h := by cases x <;> rfl
theorem same_ofQ {α β γ : Type} {f : (α → β → γ → Bool) → Bool} {x x2 : α} {t t2 : β} {h h2 : γ} (a : ∀ k, f k = k x t h) (b : ∀ k, f k = k x2 t2 h2) : x2 = x ∧ t2 = t ∧ h2 = h := by
  have e := (b fun x' t' h' => @decide (x' = x ∧ t' = t ∧ h' = h) (Classical.propDecidable _)).symm.trans (a fun x' t' h' => @decide (x' = x ∧ t' = t ∧ h' = h) (Classical.propDecidable _))
  have e2 := e.trans (@decide_eq_true _ (Classical.propDecidable _) ⟨rfl, rfl, rfl⟩)
  exact @of_decide_eq_true _ (Classical.propDecidable _) e2
theorem plC_ok {P : Program} (hm : P.follows .mixedOrders = true) {cf : CallF} (hcf : CfOk P cf) (nt : Nat) (c : Code) : QDOk P cf nt c (plC P nt c).out := by
  intro t h ds k hk
  have e0 : ∀ k', (plC P nt c).out cf t h ds k' = (sC P nt 0 0 c .zero fun _ => endQ).out cf t [] h fun x t h => k' x t h ds := fun k' => by
    unfold plC plD; rw [W.on_out]; rfl
  rw [e0] at hk
  obtain ⟨x, l1, t1, e1, h1, a1, _, _, a2, a3, _⟩ := @code_q ⟨[]⟩ P hm cf hcf nt 0 0 c (fun _ => endQ) .zero t [] h _ (LayOk.zero _ _) (clr0 t) hk
  have a1' : ∀ k', (sC P nt 0 0 c .zero fun _ => endQ).out cf t [] h k' = k' x t1 h1 := fun k' => (a1 k').trans (aft_end cf k' x t1 e1 h1)
  refine ⟨x, t1, h1, ds, fun k' => by rw [e0, a1'], a2, a3, fun ρ D a w w0 Q A Dr R hQ => ?_⟩
  obtain ⟨x2, l2, t2, e2, h2, b1, b2, b3, _, _, b4⟩ := @code_q ⟨D⟩ P hm cf hcf nt 0 0 c (fun _ => endQ) .zero t [] h _ (LayOk.zero _ _) (clr0 t) hk
  have b1' : ∀ k', (sC P nt 0 0 c .zero fun _ => endQ).out cf t [] h k' = k' x2 t2 h2 := fun k' => (b1 k').trans (aft_end cf k' x2 t2 e2 h2)
  obtain ⟨rfl, rfl, rfl⟩ := same_ofQ a1' b1'
  exact b4 ρ a w w0 Q (@ARel.of_zero ⟨D⟩ _ _ _ _ _ A) R fun ρ' a' w' l A' R' => hQ ρ' D a' w' l (@ARel.weak ⟨D⟩ _ _ _ _ _ _ _ A' b2 b3) (Dr.up l.1) R'
theorem lastD_ok : ∀ {l pre : List Oper} {g : Nat} {args : List Operand}, lastD l = some (pre, g, args) →
    ∃ a b e axs tys, l = pre ++ [⟨none, .defer ⟨.value (.func g), axs, tys⟩, a, b, e, none⟩] ∧ args = axs.toList
  | [], _, _, _, h => by cases h
  | o :: r, pre, g, args, h => by
    unfold lastD at h
    split at h
    · cases h; exact ⟨_, _, _, _, _, rfl, rfl⟩
    · cases h
    · cases hr : lastD r with
      | none => rw [hr] at h; cases h
      | some p =>
        obtain ⟨p1, p2, p3⟩ := p
        rw [hr] at h
        cases h
        obtain ⟨a, b, e, axs, tys, e1, e2⟩ := lastD_ok hr
        exact ⟨a, b, e, axs, tys, by rw [e1]; rfl, e2⟩
theorem ARel.defer {ρ : Emb} {nt : Nat} {t : F} {a : Act} {D : List Deferred} (A : @ARel ⟨D⟩ ρ nt t a) (d : Deferred) : @ARel ⟨d :: D⟩ ρ nt t { a with defers := d :: a.defers } :=
by
  have h1 : a.defers = D := @ARel.defers ⟨D⟩ ρ nt t a A
  have h2 : a.tmps.size = nt := @ARel.size ⟨D⟩ ρ nt t a A
  have h3 : ∀ n, n < 512 → VRel ρ (sGet (slOf n) t) (a.tmps.getD n undef) := @ARel.slot ⟨D⟩ ρ nt t a A
  exact @ARel.mk ⟨d :: D⟩ ρ nt t { a with defers := d :: a.defers } (congrArg (d :: ·) h1) h2 h3
theorem dfD_ok {P : Program} (hm : P.follows .mixedOrders = true) {cf : CallF} (hcf : CfOk P cf) (nt id : Nat) {ops : Array Oper} {pre : List Oper} {g : Nat} {args : List Operand} (hl : lastD ops.toList = some (pre, g, args)) :
    QDOk P cf nt (.region id ops false) (dfD P nt ops.toList pre g args).out := by
  intro t h ds k hk
  obtain ⟨ta, tb, te, axs, tys, o1, rfl⟩ := lastD_ok hl
  have e0 : ∀ k', (dfD P nt ops.toList pre g axs.toList).out cf t h ds k' = (chV P nt 0 0 ops.toList (fun _ => endQ) pre .zero).out cf t [] h fun x t h => evalsK (axs.toList.map compO) t fun vs => k' x t h ((g, vs) :: ds) := fun k' => by
    unfold dfD; rw [W.on_out]; rfl
  rw [e0] at hk
  obtain ⟨l1, t1, e1, h1, a1, _, _, a2, a3, _⟩ := @chV_ok ⟨[]⟩ P cf hcf nt 0 0 ops (fun _ => endQ) _ [pre.length] pre 0 (by rw [List.drop_zero]; exact o1) .zero t [] h _ (LayOk.zero _ _) (clr0 t) hk
  have a1' : ∀ k', (chV P nt 0 0 ops.toList (fun _ => endQ) pre .zero).out cf t [] h k' = k' .normal t1 h1 := fun k' => a1 k'
  refine ⟨.normal, t1, h1, (g, (axs.toList.map compO).map fun o => oV o t1) :: ds, fun k' => by rw [e0, a1', evalsK_ok, List.map_map]; rfl, a2, a3, fun ρ D a w w0 Q A Dr R hQ => ?_⟩
  obtain ⟨l2, t2, e2, h2, b1, b2, b3, _, _, b4⟩ := @chV_ok ⟨D⟩ P cf hcf nt 0 0 ops (fun _ => endQ) _ [pre.length] pre 0 (by rw [List.drop_zero]; exact o1) .zero t [] h _ (LayOk.zero _ _) (clr0 t) hk
  have b1' : ∀ k', (chV P nt 0 0 ops.toList (fun _ => endQ) pre .zero).out cf t [] h k' = k' .normal t2 h2 := fun k' => b1 k'
  obtain ⟨_, rfl, rfl⟩ := same_ofQ a1' b1'
  refine wp_region ?_
  have hr : List.range ops.size = List.range' 0 pre.length ++ [pre.length] := by
    have : ops.size = pre.length + 1 := by rw [← Array.length_toList, o1]; simp
    rw [this, List.range_eq_range', List.range'_concat]; simp
  rw [hr]
  refine b4 ρ a w w0 Q (@ARel.of_zero ⟨D⟩ _ _ _ _ _ A) R fun ρ' a' w' l A' R' => ?_
  have A1 : @ARel ⟨D⟩ ρ' nt t2 a' := @ARel.weak ⟨D⟩ _ _ _ _ _ _ _ A' b2 b3
  have hn : ops[pre.length]? = some ⟨none, .defer ⟨.value (.func g), axs, tys⟩, ta, tb, te, none⟩ := by
    rw [← Array.getElem?_toList, o1]; simp
  have hst := wpOps_step (n := pre.length) (m := 0) (tl := []) (a := a') (w := w') (Q := Q) hn (by
    have hw : Region.wanted (⟨none, .defer ⟨.value (.func g), axs, tys⟩, ta, tb, te, none⟩ : Oper) (yielded ops a'.tmps) = true := rfl
    rw [if_pos hw]
    unfold Oper.wp
    have hx : (execOp a'.eval ⟨none, .defer ⟨.value (.func g), axs, tys⟩, ta, tb, te, none⟩).run P w' = .ok (.defer ⟨.fn (.func g) #[], #[] ++ axs.map a'.eval⟩) w' := rfl
    rw [hx, Oper.upon_defer]
    show Q .normal _ _
    refine hQ ρ' (⟨.fn (.func g) #[], #[] ++ axs.map a'.eval⟩ :: D) _ w' l (ARel.defer A1 ⟨.fn (.func g) #[], #[] ++ axs.map a'.eval⟩) ⟨⟨rfl, ?_⟩, Dr.up l.1⟩ R'
    have := ORel.list (@ARel.ops ⟨D⟩ _ _ _ _ A1 axs.toList)
    have e : (#[] ++ axs.map a'.eval).toList = axs.toList.map a'.eval := by simp
    show LRel ρ' ((axs.toList.map compO).map fun o => oV o t2) (#[] ++ axs.map a'.eval).toList
    rw [e, List.map_map]; exact this)
  simpa using hst
theorem sqC_ok {P : Program} (hm : P.follows .mixedOrders = true) {cf : CallF} (hcf : CfOk P cf) (nt : Nat) : ∀ c, QDOk P cf nt c (sqC P nt c).out := by
  intro c
  induction c with
  | skip => exact plC_ok hm hcf nt .skip
  | label s => exact plC_ok hm hcf nt (.label s)
  | exit id => exact plC_ok hm hcf nt (.exit id)
  | ret => exact plC_ok hm hcf nt .ret
  | goto l => exact plC_ok hm hcf nt (.goto l)
  | refuse s => exact plC_ok hm hcf nt (.refuse s)
  | rangeFunc f ps x y ihx ihy => exact plC_ok hm hcf nt (.rangeFunc f ps x y)
  | loop c _ => exact plC_ok hm hcf nt (.loop c)
  | block id c _ => exact plC_ok hm hcf nt (.block id c)
  | region id ops draw =>
    show QDOk P cf nt _ (rgD P nt id ops draw).out
    unfold rgD
    split
    · rename_i h; exact dfD_ok hm hcf nt id h
    · exact plC_ok hm hcf nt _
  | scope c ihc =>
    intro t h ds k hk
    obtain ⟨x, t', h', ds', a1, a2, a3, a4⟩ := ihc t h ds k hk
    refine ⟨x, t', h', ds', a1, a2, a3, fun ρ D a w w0 Q A Dr R hQ => wp_scope_straight (a4 ρ D a w w0 _ A Dr R fun ρ' D' a' w' l A' Dr' R' => ?_)⟩
    have := hQ ρ' D' a' w' l A' Dr' R'
    cases x <;> exact this
  | seq c1 c2 ih1 ih2 =>
    intro t h ds k hk
    have eq : ∀ k', (sqC P nt (.seq c1 c2)).out cf t h ds k' = (sqC P nt c1).out cf t h ds (thenQ (sqC P nt c2).out cf k') := fun k' => by
      show (sqD (sqC P nt c1) (sqC P nt c2)).out cf t h ds k' = _
      unfold sqD; rw [W.on_out, W.on_out]; rfl
    rw [eq] at hk
    obtain ⟨x, t1, h1, ds1, a1, a2, a3, a4⟩ := ih1 t h ds _ hk
    rw [a1] at hk
    cases x with
    | normal =>
      have hk2 : (sqC P nt c2).out cf t1 h1 ds1 k = true := hk
      obtain ⟨x2, t2, h2, ds2, b1, b2, b3, b4⟩ := ih2 t1 h1 ds1 k hk2
      refine ⟨x2, t2, h2, ds2, fun k' => by rw [eq, a1]; exact b1 k', KeepF.trans a2 a3 b2, Nat.le_trans a3 b3, fun ρ D a w w0 Q A Dr R hQ => ?_⟩
      refine wp_seq (a4 ρ D a w w0 _ A Dr R fun ρ' D' a' w' l A' Dr' R' => ?_)
      exact b4 ρ' D' a' w' w0 Q A' Dr' R' fun ρ'' D'' a'' w'' l2 A'' Dr'' R'' => hQ ρ'' D'' a'' w'' (l.trans (by rw [← a2.1]; exact l2)) A'' Dr'' R''
    | exit id => exact ⟨.exit id, t1, h1, ds1, fun k' => by rw [eq, a1]; rfl, a2, a3, fun ρ D a w w0 Q A Dr R hQ => wp_seq (a4 ρ D a w w0 _ A Dr R fun ρ' D' a' w' l A' Dr' R' => hQ ρ' D' a' w' l A' Dr' R')⟩
    | ret => exact ⟨.ret, t1, h1, ds1, fun k' => by rw [eq, a1]; rfl, a2, a3, fun ρ D a w w0 Q A Dr R hQ => wp_seq (a4 ρ D a w w0 _ A Dr R fun ρ' D' a' w' l A' Dr' R' => hQ ρ' D' a' w' l A' Dr' R')⟩
  | cond c c1 c2 ih1 ih2 =>
    intro t h ds k hk
    have eq : ∀ k', (sqC P nt (.cond c c1 c2)).out cf t h ds k' = vB (oV (compO c) t) fun x => Bool.rec ((sqC P nt c2).out cf t h ds k') ((sqC P nt c1).out cf t h ds k') x := fun k' => by
      show (cdD (compO c) (sqC P nt c1) (sqC P nt c2)).out cf t h ds k' = _
      unfold cdD; rw [W.on_out, W.on_out]; rfl
    rw [eq] at hk
    obtain ⟨b, hb, hc⟩ := vB_ok hk
    have hev : ∀ ρ D a, @ARel ⟨D⟩ ρ nt t a → a.eval c = .bool b := fun ρ D a A => by
      have := @opnd_rel ⟨D⟩ _ _ _ _ A c
      rw [hb] at this; exact this
    cases b with
    | true =>
      obtain ⟨x, t1, h1, ds1, a1, a2, a3, a4⟩ := ih1 t h ds k hc
      exact ⟨x, t1, h1, ds1, fun k' => by rw [eq, hb]; exact a1 k', a2, a3, fun ρ D a w w0 Q A Dr R hQ => wp_cond_true (hev ρ D a A) (a4 ρ D a w w0 Q A Dr R hQ)⟩
    | false =>
      obtain ⟨x, t1, h1, ds1, a1, a2, a3, a4⟩ := ih2 t h ds k hc
      exact ⟨x, t1, h1, ds1, fun k' => by rw [eq, hb]; exact a1 k', a2, a3, fun ρ D a w w0 Q A Dr R hQ => wp_cond_false (hev ρ D a A) (a4 ρ D a w w0 Q A Dr R hQ)⟩
/-- calls that were deferred -/
def CfDOk (P : Program) (cf : CallF) : Prop := ∀ f vs h k, cf f vs h k = true → ∃ v h', (∀ k', cf f vs h k' = k' v h') ∧ KeepF h h' ∧ B.val h.next ≤ B.val h'.next ∧
  ∀ ρ w w0 args, LRel ρ vs args → HRel ρ h w w0 →
    (callFunc f args.toArray).run P w = .ok (.enter f args.toArray) w ∧ ∀ u, CallsD P f args.toArray u w fun e u' w' => u' = u ∧ ∃ x, e = .returned x ∧ Done h.floor ρ w0 v h' x w'
theorem cfD_ok {hs : Hints} {P : Program} (hm : P.follows .mixedOrders = true) {cf : CallF} (hcf : CfOk P cf) : CfDOk P fun f vs h k => bodyK cf vs h k (qFn hs P f) := by
  intro f vs h k hk
  obtain ⟨v, h', b1, b2, b3, fn, body, b4, b5, b6⟩ := fnQ_wp hm hcf hk
  exact ⟨v, h', b1, b2, b3, fun ρ w w0 args hargs R => ⟨(b6 ρ w w0 args hargs R).1, fun u => callsD_of_wp b4 b5 (b6 ρ w w0 args hargs R).2⟩⟩
theorem runDs_ok {P : Program} {cfD : CallF} (hcf : CfDOk P cfD) {fn : Func} : ∀ (ds : DsQ) (h : H) (k : H → Bool), runDs cfD ds h k = true →
    ∃ h', (∀ k', runDs cfD ds h k' = k' h') ∧ KeepF h h' ∧ B.val h.next ≤ B.val h'.next ∧
      ∀ ρ (D : List Deferred) (tmps : Array Value) w w0 (R : Ending → World → Prop), DqRel ρ ds D → HRel ρ h w w0 → (∀ ρ' w', Ext h.floor ρ ρ' → HRel ρ' h' w' w0 → Leaves P fn tmps R [] .returning w') → Leaves P fn tmps R D .returning w
  | [], h, k, hk => ⟨h, fun _ => rfl, KeepF.refl h, Nat.le_refl _, fun ρ D tmps w w0 R Dr Rl hl => by
      cases D with
      | nil => exact hl ρ w (Ext.refl _ ρ) Rl
      | cons d D => exact Dr.elim⟩
  | (f, vs) :: ds, h, k, hk => by
    have e : ∀ k', runDs cfD ((f, vs) :: ds) h k' = cfD f vs h fun _ h => runDs cfD ds h k' := fun _ => rfl
    rw [e] at hk
    obtain ⟨v, h1, a1, a2, a3, a4⟩ := hcf f vs h _ hk
    rw [a1] at hk
    obtain ⟨h2, b1, b2, b3, b4⟩ := runDs_ok hcf (fn := fn) ds h1 k hk
    refine ⟨h2, fun k' => by rw [e, a1, b1], KeepF.trans a2 a3 b2, Nat.le_trans a3 b3, fun ρ D tmps w w0 R Dr Rl hl => ?_⟩
    cases D with
    | nil => exact Dr.elim
    | cons d D =>
      obtain ⟨⟨d1, d2⟩, Dr⟩ := Dr
      obtain ⟨tg, ar⟩ := d
      obtain rfl : tg = .fn (.func f) #[] := d1
      have d2' : LRel ρ vs ar.toList := d2
      obtain ⟨c1, c2⟩ := a4 ρ w w0 ar.toList d2' Rl
      rw [Array.toArray_toList] at c1 c2
      refine leaves_cons (f := f) (args := ar) (by intro h; cases h) ?_ ((c2 .returning).mono fun e u' w' he => ?_)
      · show (callFunc f (ar ++ #[])).run P w = _
        rw [Array.append_empty]; exact c1
      · obtain ⟨rfl, x, rfl, ρ', x1, x2, x3⟩ := he
        exact b4 ρ' D tmps w' w0 R (Dr.up x1.1) x3 fun ρ'' w'' l R'' => hl ρ'' w'' (x1.trans (by rw [← a2.1]; exact l)) R''
theorem mkDF_eq (nt : Nat) (b : W StqD) (r : W Rq) : mkDF nt b r = ⟨nt, b.out, r.out⟩ := by cases b; cases r; rfl
/-- A FUNCTION THAT DEFERS is known -/
theorem defer_sp {hs : Hints} {tb : Nat → Option Sp} {P : Program} (htb : TbOk P tb) (hm : P.follows .mixedOrders = true) (n f : Nat) : SpOk P f (deferQ hs tb P n f) := by
  intro vs h k hk
  have hcf : CfOk P (cfQ hs tb P n) := cfQ_ok htb hm n
  have hcd : CfDOk P fun f vs h k => bodyK (cfQ hs tb P n) vs h k (qFn hs P f) := cfD_ok hm hcf
  have hbad : ∀ k', dfK (cfQ hs tb P n) (fun f vs h k => bodyK (cfQ hs tb P n) vs h k (qFn hs P f)) vs h k' noDF ≠ true := by
    intro k' hk
    have hk' : (arF vs 0 0 fun _ => false) = true := hk
    rw [arF_eq] at hk'
    obtain ⟨hb, hk'⟩ := ifK_ok hk'
    obtain ⟨_, hk'⟩ := ifK_ok hk'
    have hl : vs.length ≤ 0 := Nat.le_of_ble_eq_true (roomQ_ok hb).1
    obtain ⟨t', s1, _⟩ := slots_ok vs 0 F.zero (fun _ => true) (by omega)
    rw [s1] at hk'
    exact Bool.noConfusion hk'
  have e0 : ∀ k', deferQ hs tb P n f vs h k' = dfK (cfQ hs tb P n) (fun f vs h k => bodyK (cfQ hs tb P n) vs h k (qFn hs P f)) vs h k' (dFn P f) := fun _ => rfl
  rw [e0] at hk
  cases hfn : P.funcs.toList[f]? with
  | none =>
    have hc : dFn P f = noDF := by simp only [dFn, lg_eq, hfn]
    rw [hc] at hk; exact absurd hk (hbad k)
  | some fn =>
    have hfn' : P.funcs[f]? = some fn := by simpa using hfn
    cases hbd : fn.body with
    | none =>
      have hc : dFn P f = noDF := by simp only [dFn, lg_eq, hfn, hbd]
      rw [hc] at hk; exact absurd hk (hbad k)
    | some body =>
      cases hnm : (fn.name == "runtime.NumGoroutine") with
      | true =>
        have hc : dFn P f = noDF := by simp only [dFn, lg_eq, hfn, hbd, hnm]
        rw [hc] at hk; exact absurd hk (hbad k)
      | false =>
        have hc : dFn P f = ⟨fn.ntmps, (sqC P fn.ntmps body).out, (rtQ (fn.results.toList.map (rsOf P))).out⟩ := by simp only [dFn, lg_eq, hfn, hbd, hnm]; exact mkDF_eq _ _ _
        have e1 : ∀ k', deferQ hs tb P n f vs h k' = (ifK (roomQ vs.length fn.ntmps 0) fun _ => ifK (Nat.ble vs.length 512) fun _ => slots vs 0 F.zero fun t => (sqC P fn.ntmps body).out (cfQ hs tb P n) t h [] (retQ (fun f vs h k => bodyK (cfQ hs tb P n) vs h k (qFn hs P f)) (rtQ (fn.results.toList.map (rsOf P))).out k')) := fun k' => by
          rw [e0, hc, ← arF_eq]; rfl
        rw [← e0, e1] at hk
        obtain ⟨hroom, hk⟩ := ifK_ok hk
        obtain ⟨h512, hk⟩ := ifK_ok hk
        have hl1 : vs.length ≤ fn.ntmps := Nat.le_of_ble_eq_true (roomQ_ok hroom).1
        have hl2 : vs.length ≤ 512 := Nat.le_of_ble_eq_true h512
        obtain ⟨t0, s1, s2, s3⟩ := slots_ok vs 0 F.zero (fun _ => true) (by omega)
        rw [s1] at hk
        obtain ⟨x, t1, h1, ds1, a1, a2, a3, a4⟩ := sqC_ok hm hcf fn.ntmps body t0 h [] _ hk
        rw [a1] at hk
        have hx : (∀ k', retQ (fun f vs h k => bodyK (cfQ hs tb P n) vs h k (qFn hs P f)) (rtQ (fn.results.toList.map (rsOf P))).out k' x t1 h1 ds1 = runDs (fun f vs h k => bodyK (cfQ hs tb P n) vs h k (qFn hs P f)) ds1 h1 fun h => (rtQ (fn.results.toList.map (rsOf P))).out t1 h k') ∧ (x = .normal ∨ x = .ret) := by
          cases x with
          | normal => exact ⟨fun _ => rfl, .inl rfl⟩
          | ret => exact ⟨fun _ => rfl, .inr rfl⟩
          | exit id => exact Bool.noConfusion hk
        rw [hx.1] at hk
        obtain ⟨h2, b1, b2, b3, b4⟩ := runDs_ok hcd (fn := fn) ds1 h1 _ hk
        rw [b1, rtQ_eq] at hk
        obtain ⟨vs', r1, r2⟩ := results_ok (nt := fn.ntmps) hk
        refine ⟨one vs', h2, fun k' => by rw [e1, hroom, ifK_true, h512, ifK_true, s1, a1, hx.1, b1, rtQ_eq, r1, forceV_eq], KeepF.trans a2 a3 b2, Nat.le_trans a3 b3, fun ρ w w0 args hargs R => ?_⟩
        have hal := hargs.length
        constructor
        · have hp : (program : Sem Program).run P w = .ok P w := rfl
          unfold callFunc
          simp only [Sem.run_bind, hp, Result.andThen_ok, hfn', hnm, Bool.false_eq_true, if_false, hbd, Option.isNone_some]
          rfl
        · have A0 : @ARel ⟨[]⟩ ρ fn.ntmps t0 { tmps := args.toArray ++ Array.replicate (fn.ntmps - args.toArray.size) undef, defers := [] } := by
            refine ⟨rfl, by simp; omega, fun m hm => ?_⟩
            by_cases hmv : m < vs.length
            · have hv : vs[m]? = some (vs[m]'hmv) := by simp
              obtain ⟨y, y1, y2⟩ := hargs.get hv
              have := s2 m _ hv
              rw [Nat.zero_add] at this
              rw [this]
              have hy : (args.toArray ++ Array.replicate (fn.ntmps - args.toArray.size) undef).getD m undef = y := by
                have hma : m < args.length := by omega
                rw [Array.getD_eq_getD_getElem?, Array.getElem?_append_left (by simpa using hma)]
                simp [y1]
              rw [hy]; exact y2
            · rw [s3 m hm (.inr (by omega)), zero_slot]; trivial
          refine calls_of_wp_defers hfn' hbd ?_
          refine a4 ρ [] _ w w0 _ A0 trivial R fun ρ' D' a' w' l A' Dr' R' => ?_
          have hL : Leaves P fn a'.tmps (fun e w' => ∃ x, e = .returned x ∧ Done h.floor ρ w0 (one vs') h2 x w') D' .returning w' := by
            refine b4 ρ' D' a'.tmps w' w0 _ Dr' R' fun ρ'' w'' l2 R'' => ?_
            have A2 : ARel ρ'' fn.ntmps t1 { a' with defers := [] } := ⟨rfl, (show a'.tmps.size = fn.ntmps from @ARel.size ⟨D'⟩ ρ' _ t1 a' A'), fun m hm => VRel.up l2.1 _ _ (@ARel.slot ⟨D'⟩ ρ' _ t1 a' A' m hm)⟩
            obtain ⟨y, y1, y2⟩ := r2 ρ'' { a' with defers := [] } w'' w0 A2 R''
            exact ⟨y, y2, y, rfl, ρ'', l.trans (by rw [← a2.1]; exact l2), y1, R''⟩
          have hd : a'.defers = D' := @ARel.defers ⟨D'⟩ _ _ _ _ A'
          rcases hx.2 with rfl | rfl
          · show Leaves P fn a'.tmps _ a'.defers .returning w'
            rw [hd]; exact hL
          · show Leaves P fn a'.tmps _ a'.defers .returning w'
            rw [hd]; exact hL
end Go.Ev

namespace Go.Proofs
open Go.Shelf
def Tryz.keys184_ren : Go.Shelf.Ren := ⟨fun | 7 => 184 | 10 => 244 | n => n, fun | 23 => 112 | 26 => 9 | 3 => 31 | 28 => 271 | 0 => 0 | 27 => 270 | 33 => 178 | 4 => 4 | n => n, fun | n => n⟩
theorem Tryz.keys184 : Go.Proofs.SlLaysZ.n7 Tryz.prog Tryz.keys184_ren := {
  mixed := by kernel_rfl
  f7 := ⟨Tryz.f184.name, by decide, Tryz.func184.trans (congrArg some (by kernel_rfl))⟩
  f10 := ⟨Tryz.f244.name, by decide, Tryz.func244.trans (congrArg some (by kernel_rfl))⟩
  t0 := Tryz.underlying0
  a0 := Tryz.isAgg0
  z0 := Tryz.sizeOf0
  v0 := Tryz.zeroValue0
  t4 := Tryz.underlying4
  a4 := Tryz.isAgg4
  z4 := Tryz.sizeOf4
  v4 := Tryz.zeroValue4
  t23 := Tryz.underlying112
  a23 := Tryz.isAgg112
  z23 := Tryz.sizeOf112
  v23 := Tryz.zeroValue112
  t26 := Tryz.underlying9
  a26 := Tryz.isAgg9
  z26 := Tryz.sizeOf9
  v26 := Tryz.zeroValue9
  t27 := Tryz.underlying270
  a27 := Tryz.isAgg270
  z27 := Tryz.sizeOf270
  v27 := Tryz.zeroValue270
  t28 := Tryz.underlying271
  a28 := Tryz.isAgg271
  z28 := Tryz.sizeOf271
  v28 := Tryz.zeroValue271
  t33 := Tryz.underlying178
  a33 := Tryz.isAgg178
  z33 := Tryz.sizeOf178
  v33 := Tryz.zeroValue178 }
def Tryz.sorted183_ren : Go.Shelf.Ren := ⟨fun | 6 => 183 | 8 => 242 | 9 => 243 | 11 => 303 | 13 => 205 | 12 => 304 | 23 => 267 | 24 => 268 | 14 => 335 | 15 => 336 | 16 => 337 | 17 => 338 | 18 => 339 | 19 => 340 | 20 => 341 | 21 => 342 | 22 => 343 | 25 => 358 | 26 => 317 | 27 => 318 | 28 => 359 | 29 => 360 | 30 => 361 | 31 => 367 | n => n, fun | 26 => 9 | 28 => 271 | 24 => 103 | 0 => 0 | 3 => 3 | 37 => 276 | 48 => 330 | 50 => 312 | 4 => 4 | 40 => 340 | 39 => 339 | 45 => 256 | 5 => 5 | 9 => 9 | 51 => 384 | 55 => 388 | 57 => 419 | 58 => 80 | 33 => 178 | n => n, fun | n => n⟩
theorem Tryz.sorted183 : Go.Proofs.SlLaysZ.n6 Tryz.prog Tryz.sorted183_ren := {
  mixed := by kernel_rfl
  f6 := ⟨Tryz.f183.name, by decide, Tryz.func183.trans (congrArg some (by kernel_rfl))⟩
  f8 := ⟨Tryz.f242.name, by decide, Tryz.func242.trans (congrArg some (by kernel_rfl))⟩
  f11 := ⟨Tryz.f303.name, by decide, Tryz.func303.trans (congrArg some (by kernel_rfl))⟩
  t0 := Tryz.underlying0
  a0 := Tryz.isAgg0
  z0 := Tryz.sizeOf0
  v0 := Tryz.zeroValue0
  t24 := Tryz.underlying103
  a24 := Tryz.isAgg103
  z24 := Tryz.sizeOf103
  v24 := Tryz.zeroValue103
  t26 := Tryz.underlying9
  a26 := Tryz.isAgg9
  z26 := Tryz.sizeOf9
  v26 := Tryz.zeroValue9
  t28 := Tryz.underlying271
  a28 := Tryz.isAgg271
  z28 := Tryz.sizeOf271
  v28 := Tryz.zeroValue271
  i26 := by kernel_rfl }
def Tryz.sort243_ren : Go.Shelf.Ren := ⟨fun | 6 => 243 | 8 => 205 | 9 => 304 | 19 => 267 | 20 => 268 | 21 => 335 | 22 => 336 | 23 => 337 | 24 => 338 | 25 => 339 | 26 => 340 | 27 => 341 | 28 => 342 | 29 => 343 | 36 => 358 | 31 => 317 | 32 => 318 | 37 => 359 | 38 => 360 | 39 => 361 | 41 => 367 | n => n, fun | 27 => 103 | 29 => 9 | 3 => 3 | 32 => 276 | 26 => 103 | 0 => 0 | 44 => 330 | 46 => 312 | 4 => 4 | 36 => 340 | 35 => 339 | 41 => 256 | 5 => 5 | 9 => 9 | 53 => 384 | 57 => 388 | 63 => 419 | 64 => 80 | n => n, fun | n => n⟩
theorem Tryz.sort243 : Go.Proofs.SlLaysM.n6 Tryz.prog Tryz.sort243_ren := {
  mixed := by kernel_rfl
  f6 := ⟨Tryz.f243.name, by decide, Tryz.func243.trans (congrArg some (by kernel_rfl))⟩
  f8 := Tryz.func205.trans (congrArg some (by kernel_rfl))
  f9 := ⟨Tryz.f304.name, by decide, Tryz.func304.trans (congrArg some (by kernel_rfl))⟩
  f19 := Tryz.func267.trans (congrArg some (by kernel_rfl))
  f20 := Tryz.func268.trans (congrArg some (by kernel_rfl))
  f21 := ⟨Tryz.f335.name, by decide, Tryz.func335.trans (congrArg some (by kernel_rfl))⟩
  f22 := ⟨Tryz.f336.name, by decide, Tryz.func336.trans (congrArg some (by kernel_rfl))⟩
  f23 := ⟨Tryz.f337.name, by decide, Tryz.func337.trans (congrArg some (by kernel_rfl))⟩
  f24 := ⟨Tryz.f338.name, by decide, Tryz.func338.trans (congrArg some (by kernel_rfl))⟩
  f25 := ⟨Tryz.f339.name, by decide, Tryz.func339.trans (congrArg some (by kernel_rfl))⟩
  f26 := ⟨Tryz.f340.name, by decide, Tryz.func340.trans (congrArg some (by kernel_rfl))⟩
  f27 := ⟨Tryz.f341.name, by decide, Tryz.func341.trans (congrArg some (by kernel_rfl))⟩
  f28 := ⟨Tryz.f342.name, by decide, Tryz.func342.trans (congrArg some (by kernel_rfl))⟩
  f29 := ⟨Tryz.f343.name, by decide, Tryz.func343.trans (congrArg some (by kernel_rfl))⟩
  f31 := Tryz.func317.trans (congrArg some (by kernel_rfl))
  f32 := Tryz.func318.trans (congrArg some (by kernel_rfl))
  f36 := ⟨Tryz.f358.name, by decide, Tryz.func358.trans (congrArg some (by kernel_rfl))⟩
  f37 := ⟨Tryz.f359.name, by decide, Tryz.func359.trans (congrArg some (by kernel_rfl))⟩
  f38 := ⟨Tryz.f360.name, by decide, Tryz.func360.trans (congrArg some (by kernel_rfl))⟩
  f39 := ⟨Tryz.f361.name, by decide, Tryz.func361.trans (congrArg some (by kernel_rfl))⟩
  f41 := ⟨Tryz.f367.name, by decide, Tryz.func367.trans (congrArg some (by kernel_rfl))⟩
  t0 := Tryz.underlying0
  a0 := Tryz.isAgg0
  z0 := Tryz.sizeOf0
  v0 := Tryz.zeroValue0
  t3 := Tryz.underlying3
  a3 := Tryz.isAgg3
  z3 := Tryz.sizeOf3
  v3 := Tryz.zeroValue3
  t4 := Tryz.underlying4
  a4 := Tryz.isAgg4
  z4 := Tryz.sizeOf4
  v4 := Tryz.zeroValue4
  t5 := Tryz.underlying5
  a5 := Tryz.isAgg5
  z5 := Tryz.sizeOf5
  v5 := Tryz.zeroValue5
  t9 := Tryz.underlying9
  a9 := Tryz.isAgg9
  z9 := Tryz.sizeOf9
  v9 := Tryz.zeroValue9
  t26 := Tryz.underlying103
  a26 := Tryz.isAgg103
  z26 := Tryz.sizeOf103
  v26 := Tryz.zeroValue103
  t27 := Tryz.underlying103
  a27 := Tryz.isAgg103
  z27 := Tryz.sizeOf103
  v27 := Tryz.zeroValue103
  t29 := Tryz.underlying9
  a29 := Tryz.isAgg9
  z29 := Tryz.sizeOf9
  v29 := Tryz.zeroValue9
  t32 := Tryz.underlying276
  a32 := Tryz.isAgg276
  z32 := Tryz.sizeOf276
  v32 := Tryz.zeroValue276
  t35 := Tryz.underlying339
  a35 := Tryz.isAgg339
  z35 := Tryz.sizeOf339
  v35 := Tryz.zeroValue339
  t36 := Tryz.underlying340
  a36 := Tryz.isAgg340
  z36 := Tryz.sizeOf340
  v36 := Tryz.zeroValue340
  t41 := Tryz.underlying256
  a41 := Tryz.isAgg256
  z41 := Tryz.sizeOf256
  v41 := Tryz.zeroValue256
  t44 := Tryz.underlying330
  a44 := Tryz.isAgg330
  z44 := Tryz.sizeOf330
  v44 := Tryz.zeroValue330
  t46 := Tryz.underlying312
  a46 := Tryz.isAgg312
  z46 := Tryz.sizeOf312
  v46 := Tryz.zeroValue312
  t53 := Tryz.underlying384
  a53 := Tryz.isAgg384
  z53 := Tryz.sizeOf384
  v53 := Tryz.zeroValue384
  t57 := Tryz.underlying388
  a57 := Tryz.isAgg388
  z57 := Tryz.sizeOf388
  v57 := Tryz.zeroValue388
  t63 := Tryz.underlying419
  a63 := Tryz.isAgg419
  z63 := Tryz.sizeOf419
  v63 := Tryz.zeroValue419
  t64 := Tryz.underlying80
  a64 := Tryz.isAgg80
  z64 := Tryz.sizeOf80
  v64 := Tryz.zeroValue80 }
end Go.Proofs

set_option linter.all false
namespace Go.Ev
open Go
noncomputable def put (n : Nat) (v : V) (t : F) : F := Classical.choose (sPut_ok (slOf n) v t)
noncomputable def get (n : Nat) (t : F) : V := sGet (slOf n) t
theorem sPut_put (n : Nat) (v : V) (t : F) (k : F → Bool) : sPut (slOf n) v t k = k (put n v t) := (Classical.choose_spec (sPut_ok (slOf n) v t)).1 k
theorem get_put (n m : Nat) (v : V) (t : F) (hn : n < 512) (hm : m < 512) : get n (put m v t) = if n = m then v else get n t := by
  have h := Classical.choose_spec (sPut_ok (slOf m) v t)
  by_cases e : n = m
  · subst e; rw [if_pos rfl]; exact h.2.1
  · rw [if_neg e]; exact h.2.2 _ fun he => e (slOf_inj hn hm he)
noncomputable def slotsF : List V → Nat → F → F
  | [], _, t => t
  | v :: vs, n, t => slotsF vs (n + 1) (put n v t)
theorem slots_slotsF : ∀ (vs : List V) (n : Nat) (t : F) (k : F → Bool), slots vs n t k = k (slotsF vs n t)
  | [], _, _, _ => rfl
  | v :: vs, n, t, k => by
    have e : slots (v :: vs) n t k = sPut (slOf n) v t fun t => slots vs (n + 1) t k := rfl
    rw [e, sPut_put, slots_slotsF vs]; rfl
abbrev tm (n : Nat) : O := .t (slOf n)
theorem oV_t (n : Nat) (t : F) : oV (.t (slOf n)) t = get n t := rfl
theorem oV_c (v : V) (t : F) : oV (.c v) t = v := rfl
def Steps (P : Program) (nt : Nat) (c : Code) (t : F) (h : H) (x : X) (t' : F) (h' : H) : Prop := KeepF h h' ∧ B.val h.next ≤ B.val h'.next ∧ CodeSound P nt c t h x t' h'
/-- the code that is compiled as 'cc' comes, from that state, to one of which K holds -/
def Ok (P : Program) (nt : Nat) (cc : CC) (t : F) (h : H) (K : X → F → H → Prop) : Prop := ∃ x t' h', (∀ c, comp P nt c = cc → Steps P nt c t h x t' h') ∧ K x t' h'
theorem Ok.mono {P : Program} {nt : Nat} {cc : CC} {t : F} {h : H} {K K' : X → F → H → Prop} (a : Ok P nt cc t h K) (hk : ∀ x t h, K x t h → K' x t h) : Ok P nt cc t h K' := by
  obtain ⟨x, t', h', a1, a2⟩ := a
  exact ⟨x, t', h', a1, hk _ _ _ a2⟩
theorem Steps.scope {P : Program} {nt : Nat} {c : Code} {t : F} {h : H} {x : X} {t' : F} {h' : H} (a : Steps P nt c t h x t' h') : Steps P nt (.scope c) t h x t' h' := by
  obtain ⟨a2, a3, a4⟩ := a
  refine ⟨a2, a3, fun ρ a w w0 Q A R hQ => wp_scope_straight (a4 ρ a w w0 _ A R fun ρ' a' w' l1 A' R' => ?_)⟩
  have := hQ ρ' a' w' l1 A' R'
  cases x <;> exact this
theorem Steps.trans {P : Program} {nt : Nat} {c1 c2 : Code} {t t1 t2 : F} {h h1 h2 : H} {x : X} (a : Steps P nt c1 t h .normal t1 h1) (b : Steps P nt c2 t1 h1 x t2 h2) : Steps P nt (.seq c1 c2) t h x t2 h2 := by
  obtain ⟨a2, a3, a4⟩ := a
  obtain ⟨b2, b3, b4⟩ := b
  refine ⟨KeepF.trans a2 a3 b2, Nat.le_trans a3 b3, fun ρ a w w0 Q A R hQ => ?_⟩
  refine wp_seq (a4 ρ a w w0 _ A R fun ρ' a' w' l1 A' R' => ?_)
  exact b4 ρ' a' w' w0 Q A' R' fun ρ'' a'' w'' l2 A'' R'' => hQ ρ'' a'' w'' (l1.trans (by rw [← a2.1]; exact l2)) A'' R''
/-- what is compiled so is code of that kind, but for scopes -/
theorem by_scopes {P : Program} {nt : Nat} {t : F} {h : H} {x : X} {t' : F} {h' : H} (cc : CC)
    (base : ∀ c, comp P nt c = cc → (∀ d, c ≠ .scope d) → Steps P nt c t h x t' h') : ∀ c, comp P nt c = cc → Steps P nt c t h x t' h' := by
  intro c
  induction c with
  | scope d ih => intro e; exact (ih e).scope
  | _ => intro e; exact base _ e (fun d hd => by cases hd)
section
variable {P : Program} {nt : Nat} {t : F} {h : H} {K : X → F → H → Prop}
theorem Ok.skip (k : K .normal t h) : Ok P nt .skip t h K := by
  refine ⟨.normal, t, h, by_scopes _ fun c e hs => ?_, k⟩
  have r : ∀ c, (c = .skip ∨ ∃ l, c = .label l) → Steps P nt c t h .normal t h := by
    rintro c (rfl | ⟨l, rfl⟩)
    · exact ⟨KeepF.refl h, Nat.le_refl _, fun ρ a w w0 Q A R hQ => wp_skip (hQ ρ a w (Ext.refl _ ρ) A R)⟩
    · exact ⟨KeepF.refl h, Nat.le_refl _, fun ρ a w w0 Q A R hQ => wp_label (hQ ρ a w (Ext.refl _ ρ) A R)⟩
  cases c with
  | skip => exact r _ (.inl rfl)
  | label l => exact r _ (.inr ⟨l, rfl⟩)
  | scope d => exact absurd rfl (hs d)
  | region id ops draw =>
    have e' : compRegion P nt ops.toList draw = .skip := e
    exact (reg_no e' rfl).elim
  | _ => cases e
theorem Ok.exit {id : Nat} (k : K (.exit id) t h) : Ok P nt (.exit id) t h K := by
  refine ⟨.exit id, t, h, by_scopes _ fun c e hs => ?_, k⟩
  cases c with
  | exit j => cases e; exact ⟨KeepF.refl h, Nat.le_refl _, fun ρ a w w0 Q A R hQ => wp_exit (hQ ρ a w (Ext.refl _ ρ) A R)⟩
  | scope d => exact absurd rfl (hs d)
  | region id ops draw =>
    have e' : compRegion P nt ops.toList draw = .exit _ := e
    exact (reg_no e' rfl).elim
  | _ => cases e
theorem Ok.ret (k : K .ret t h) : Ok P nt .ret t h K := by
  refine ⟨.ret, t, h, by_scopes _ fun c e hs => ?_, k⟩
  cases c with
  | ret => exact ⟨KeepF.refl h, Nat.le_refl _, fun ρ a w w0 Q A R hQ => wp_ret (hQ ρ a w (Ext.refl _ ρ) A R)⟩
  | scope d => exact absurd rfl (hs d)
  | region id ops draw =>
    have e' : compRegion P nt ops.toList draw = .ret := e
    exact (reg_no e' rfl).elim
  | _ => cases e
/-- behind the first part -/
def Then (K' : F → H → Prop) (K : X → F → H → Prop) : X → F → H → Prop
  | .normal, t, h => K' t h
  | x, t, h => K x t h
theorem Ok.seq {a b : CC} (k : Ok P nt a t h (Then (fun t h => Ok P nt b t h K) K)) : Ok P nt (.seq a b) t h K := by
  obtain ⟨x, t1, h1, a1, a2⟩ := k
  have inv : ∀ c, comp P nt c = .seq a b → (∀ d, c ≠ .scope d) → ∃ c1 c2, c = .seq c1 c2 ∧ comp P nt c1 = a ∧ comp P nt c2 = b := by
    intro c e hs
    cases c with
    | seq c1 c2 => cases e; exact ⟨c1, c2, rfl, rfl, rfl⟩
    | scope d => exact absurd rfl (hs d)
    | region id ops draw =>
      have e' : compRegion P nt ops.toList draw = .seq a b := e
      exact (reg_no e' rfl).elim
    | _ => cases e
  cases x with
  | normal =>
    obtain ⟨x2, t2, h2, b1, b2⟩ := a2
    refine ⟨x2, t2, h2, by_scopes _ fun c e hs => ?_, b2⟩
    obtain ⟨c1, c2, rfl, e1, e2⟩ := inv c e hs
    exact (a1 c1 e1).trans (b1 c2 e2)
  | exit id =>
    refine ⟨_, t1, h1, by_scopes _ fun c e hs => ?_, a2⟩
    obtain ⟨c1, c2, rfl, e1, e2⟩ := inv c e hs
    obtain ⟨s1, s2, s3⟩ := a1 c1 e1
    exact ⟨s1, s2, fun ρ a w w0 Q A R hQ => wp_seq (s3 ρ a w w0 _ A R fun ρ' a' w' l1 A' R' => hQ ρ' a' w' l1 A' R')⟩
  | ret =>
    refine ⟨_, t1, h1, by_scopes _ fun c e hs => ?_, a2⟩
    obtain ⟨c1, c2, rfl, e1, e2⟩ := inv c e hs
    obtain ⟨s1, s2, s3⟩ := a1 c1 e1
    exact ⟨s1, s2, fun ρ a w w0 Q A R hQ => wp_seq (s3 ρ a w w0 _ A R fun ρ' a' w' l1 A' R' => hQ ρ' a' w' l1 A' R')⟩
theorem Ok.cond {o : O} {a b : CC} {q : Bool} (hq : oV o t = .b q) (ha : q = true → Ok P nt a t h K) (hb : q = false → Ok P nt b t h K) : Ok P nt (.cond o a b) t h K := by
  have inv : ∀ c, comp P nt c = .cond o a b → (∀ d, c ≠ .scope d) → ∃ x c1 c2, c = .cond x c1 c2 ∧ compO x = o ∧ comp P nt c1 = a ∧ comp P nt c2 = b := by
    intro c e hs
    cases c with
    | cond x c1 c2 => cases e; exact ⟨x, c1, c2, rfl, rfl, rfl, rfl⟩
    | scope d => exact absurd rfl (hs d)
    | region id ops draw =>
      have e' : compRegion P nt ops.toList draw = .cond o a b := e
      exact (reg_no e' rfl).elim
    | _ => cases e
  have hev : ∀ x, compO x = o → ∀ ρ a, ARel ρ nt t a → a.eval x = .bool q := fun x hx ρ a A => by
    have := opnd_rel A x
    rw [hx, hq] at this; exact this
  cases q with
  | true =>
    obtain ⟨x, t1, h1, a1, a2⟩ := ha rfl
    refine ⟨x, t1, h1, by_scopes _ fun c e hs => ?_, a2⟩
    obtain ⟨y, c1, c2, rfl, e0, e1, e2⟩ := inv c e hs
    obtain ⟨s1, s2, s3⟩ := a1 c1 e1
    exact ⟨s1, s2, fun ρ a w w0 Q A R hQ => wp_cond_true (hev y e0 ρ a A) (s3 ρ a w w0 Q A R hQ)⟩
  | false =>
    obtain ⟨x, t1, h1, a1, a2⟩ := hb rfl
    refine ⟨x, t1, h1, by_scopes _ fun c e hs => ?_, a2⟩
    obtain ⟨y, c1, c2, rfl, e0, e1, e2⟩ := inv c e hs
    obtain ⟨s1, s2, s3⟩ := a1 c2 e2
    exact ⟨s1, s2, fun ρ a w w0 Q A R hQ => wp_cond_false (hev y e0 ρ a A) (s3 ρ a w w0 Q A R hQ)⟩
/-- out of a block -/
def Out (id : Nat) (K : X → F → H → Prop) : X → F → H → Prop
  | .exit j, t, h => if j = id then K .normal t h else K (.exit j) t h
  | x, t, h => K x t h
theorem Ok.block {id : Nat} {a : CC} (k : Ok P nt a t h (Out id K)) : Ok P nt (.block id a) t h K := by
  obtain ⟨x, t1, h1, a1, a2⟩ := k
  have inv : ∀ c, comp P nt c = .block id a → (∀ d, c ≠ .scope d) → ∃ c1, c = .block id c1 ∧ comp P nt c1 = a := by
    intro c e hs
    cases c with
    | block j c1 => cases e; exact ⟨c1, rfl, rfl⟩
    | scope d => exact absurd rfl (hs d)
    | region id ops draw =>
      have e' : compRegion P nt ops.toList draw = .block _ a := e
      exact (reg_no e' rfl).elim
    | _ => cases e
  cases x with
  | normal =>
    refine ⟨_, t1, h1, by_scopes _ fun c e hs => ?_, a2⟩
    obtain ⟨c1, rfl, e1⟩ := inv c e hs
    obtain ⟨s1, s2, s3⟩ := a1 c1 e1
    exact ⟨s1, s2, fun ρ a w w0 Q A R hQ => wp_block (s3 ρ a w w0 _ A R fun ρ' a' w' l1 A' R' => hQ ρ' a' w' l1 A' R')⟩
  | ret =>
    refine ⟨_, t1, h1, by_scopes _ fun c e hs => ?_, a2⟩
    obtain ⟨c1, rfl, e1⟩ := inv c e hs
    obtain ⟨s1, s2, s3⟩ := a1 c1 e1
    exact ⟨s1, s2, fun ρ a w w0 Q A R hQ => wp_block (s3 ρ a w w0 _ A R fun ρ' a' w' l1 A' R' => hQ ρ' a' w' l1 A' R')⟩
  | exit j =>
    by_cases hj : j = id
    · have a2' : K .normal t1 h1 := by
        have : (if j = id then K .normal t1 h1 else K (.exit j) t1 h1) := a2
        rwa [if_pos hj] at this
      refine ⟨_, t1, h1, by_scopes _ fun c e hs => ?_, a2'⟩
      obtain ⟨c1, rfl, e1⟩ := inv c e hs
      obtain ⟨s1, s2, s3⟩ := a1 c1 e1
      refine ⟨s1, s2, fun ρ a w w0 Q A R hQ => wp_block (s3 ρ a w w0 _ A R fun ρ' a' w' l1 A' R' => ?_)⟩
      show (if j = id then Q .normal a' w' else Q (.exit j) a' w')
      rw [if_pos hj]; exact hQ ρ' a' w' l1 A' R'
    · have a2' : K (.exit j) t1 h1 := by
        have : (if j = id then K .normal t1 h1 else K (.exit j) t1 h1) := a2
        rwa [if_neg hj] at this
      refine ⟨_, t1, h1, by_scopes _ fun c e hs => ?_, a2'⟩
      obtain ⟨c1, rfl, e1⟩ := inv c e hs
      obtain ⟨s1, s2, s3⟩ := a1 c1 e1
      refine ⟨s1, s2, fun ρ a w w0 Q A R hQ => wp_block (s3 ρ a w w0 _ A R fun ρ' a' w' l1 A' R' => ?_)⟩
      show (if j = id then Q .normal a' w' else Q (.exit j) a' w')
      rw [if_neg hj]; exact hQ ρ' a' w' l1 A' R'
end
/-- a loop: 'Inv m' holds at each round's head, and m falls -/
theorem Ok.loop {P : Program} {nt : Nat} {a : CC} {K : X → F → H → Prop} (Inv : Nat → F → H → Prop)
    (round : ∀ m t h, Inv m t h → Ok P nt a t h (Then (fun t' h' => ∃ m', m' < m ∧ Inv m' t' h') K)) : ∀ m t h, Inv m t h → Ok P nt (.loop a) t h K := by
  have inv : ∀ c, comp P nt c = .loop a → (∀ d, c ≠ .scope d) → ∃ c1, c = .loop c1 ∧ comp P nt c1 = a := by
    intro c e hs
    cases c with
    | loop c1 => cases e; exact ⟨c1, rfl, rfl⟩
    | scope d => exact absurd rfl (hs d)
    | region id ops draw =>
      have e' : compRegion P nt ops.toList draw = .loop a := e
      exact (reg_no e' rfl).elim
    | _ => cases e
  have main : ∀ n m t h, m ≤ n → Inv m t h → ∃ x t' h', (∀ c, comp P nt c = a → KeepF h h' ∧ B.val h.next ≤ B.val h'.next ∧ LoopSound P nt c t h x t' h') ∧ K x t' h' := by
    intro n
    induction n with
    | zero =>
      intro m t h hm hI
      obtain ⟨x, t1, h1, a1, a2⟩ := round m t h hI
      cases x with
      | normal => obtain ⟨m', hm', _⟩ := a2; omega
      | exit id => exact ⟨_, t1, h1, fun c e => ⟨(a1 c e).1, (a1 c e).2.1, fun ρ a w w0 Q A R hQ => loopArr_of ((a1 c e).2.2 ρ a w w0 _ A R fun ρ' a' w' l1 A' R' => hQ ρ' a' w' l1 A' R')⟩, a2⟩
      | ret => exact ⟨_, t1, h1, fun c e => ⟨(a1 c e).1, (a1 c e).2.1, fun ρ a w w0 Q A R hQ => loopArr_of ((a1 c e).2.2 ρ a w w0 _ A R fun ρ' a' w' l1 A' R' => hQ ρ' a' w' l1 A' R')⟩, a2⟩
    | succ n ih =>
      intro m t h hm hI
      obtain ⟨x, t1, h1, a1, a2⟩ := round m t h hI
      cases x with
      | normal =>
        obtain ⟨m', hm', hI'⟩ := a2
        obtain ⟨x2, t2, h2, b1, b2⟩ := ih m' t1 h1 (by omega) hI'
        refine ⟨x2, t2, h2, fun c e => ?_, b2⟩
        obtain ⟨s1, s2, s3⟩ := a1 c e
        obtain ⟨r1, r2, r3⟩ := b1 c e
        refine ⟨KeepF.trans s1 s2 r1, Nat.le_trans s2 r2, fun ρ a w w0 Q A R hQ => ?_⟩
        refine loopArr_of (s3 ρ a w w0 _ A R fun ρ' a' w' l1 A' R' => ?_)
        exact r3 ρ' a' w' w0 Q A' R' fun ρ'' a'' w'' l2 A'' R'' => hQ ρ'' a'' w'' (l1.trans (by rw [← s1.1]; exact l2)) A'' R''
      | exit id => exact ⟨_, t1, h1, fun c e => ⟨(a1 c e).1, (a1 c e).2.1, fun ρ a w w0 Q A R hQ => loopArr_of ((a1 c e).2.2 ρ a w w0 _ A R fun ρ' a' w' l1 A' R' => hQ ρ' a' w' l1 A' R')⟩, a2⟩
      | ret => exact ⟨_, t1, h1, fun c e => ⟨(a1 c e).1, (a1 c e).2.1, fun ρ a w w0 Q A R hQ => loopArr_of ((a1 c e).2.2 ρ a w w0 _ A R fun ρ' a' w' l1 A' R' => hQ ρ' a' w' l1 A' R')⟩, a2⟩
  intro m t h hI
  obtain ⟨x, t', h', a1, a2⟩ := main m m t h (Nat.le_refl _) hI
  refine ⟨x, t', h', by_scopes _ fun c e hs => ?_, a2⟩
  obtain ⟨c1, rfl, e1⟩ := inv c e hs
  obtain ⟨s1, s2, s3⟩ := a1 c1 e1
  exact ⟨s1, s2, fun ρ a w w0 Q A R hQ => wp_loop_of (s3 ρ a w w0 Q A R hQ)⟩
def FnRes (P : Program) (f : FuncId) (vs : List V) (h : H) (v : V) (h' : H) : Prop := KeepF h h' ∧ B.val h.next ≤ B.val h'.next ∧
  ∀ ρ w w0 args, LRel ρ vs args → HRel ρ h w w0 →
    (callFunc f args.toArray).run P w = .ok (.enter f args.toArray) w ∧ Calls P f args.toArray w fun e w' => ∃ x, e = .returned x ∧ Done h.floor ρ w0 v h' x w'
def FnOk (P : Program) (f : FuncId) (vs : List V) (h : H) (K : V → H → Prop) : Prop := ∃ v h', FnRes P f vs h v h' ∧ K v h'
theorem FnOk.mono {P : Program} {f : FuncId} {vs : List V} {h : H} {K K' : V → H → Prop} (a : FnOk P f vs h K) (hk : ∀ v h, K v h → K' v h) : FnOk P f vs h K' := by
  obtain ⟨v, h', a1, a2⟩ := a
  exact ⟨v, h', a1, hk _ _ a2⟩
abbrev Spec := FuncId → List V → H → V → H → Prop
open Classical in
/-- calls by their specifications -/
noncomputable def cfS (P : Program) (S : Spec) : CallF := fun f vs h k => if e : ∃ r : V × H, FnRes P f vs h r.1 r.2 ∧ S f vs h r.1 r.2 then k (Classical.choose e).1 (Classical.choose e).2 else false
theorem cfS_ok (P : Program) (S : Spec) : CfOk P (cfS P S) := by
  intro f vs h k hk
  unfold cfS at hk
  split at hk
  · rename_i e
    have := (Classical.choose_spec e).1
    refine ⟨_, _, fun k' => ?_, this.1, this.2.1, this.2.2⟩
    · unfold cfS; rw [dif_pos e]
  · cases hk
/-- a call: what comes of it is one value, one state, of which the specification holds -/
theorem cfS_call {P : Program} {S : Spec} {f : FuncId} {vs : List V} {h : H} (a : FnOk P f vs h (S f vs h)) : ∃ v h', (∀ k, cfS P S f vs h k = k v h') ∧ S f vs h v h' := by
  have e : ∃ r : V × H, FnRes P f vs h r.1 r.2 ∧ S f vs h r.1 r.2 := by
    obtain ⟨v, h', a1, a2⟩ := a
    exact ⟨(v, h'), a1, a2⟩
  exact ⟨_, _, fun k => by unfold cfS; rw [dif_pos e], (Classical.choose_spec e).2⟩
section
variable {P : Program} {nt : Nat} {t : F} {h : H} {K : X → F → H → Prop}
theorem Ok.region {S : Spec} {ops : List CO} {t' : F} {h' : H} (e : ∀ k : F → H → Bool, execOps (cfS P S) ops t h k = k t' h') (k : K .normal t' h') : Ok P nt (.region ops) t h K := by
  refine ⟨.normal, t', h', by_scopes _ fun c e' hs => ?_, k⟩
  cases c with
  | region id os draw =>
    have e1 : compRegion P nt os.toList draw = .region ops := e'
    obtain ⟨rfl, rfl⟩ := reg_is e1
    obtain ⟨t1, h1, a1, a2, a3, a4⟩ := ops_ok (cfS_ok P S) (fun _ => true) os.toList 0 (by simp) t h (fun _ _ => true) (e _)
    have hth : t1 = t' ∧ h1 = h' := by
      have := (a1 fun t2 h2 => @decide (t2 = t1 ∧ h2 = h1) (Classical.propDecidable _))
      rw [e] at this
      simp at this
      exact ⟨this.1.symm, this.2.symm⟩
    obtain ⟨rfl, rfl⟩ := hth
    refine ⟨a2, a3, fun ρ a w w0 Q A R hQ => wp_region ?_⟩
    have := a4 ρ a w w0 Q A R hQ
    rwa [show List.range' 0 os.toList.length = List.range os.size by rw [List.range_eq_range']; simp] at this
  | scope d => exact absurd rfl (hs d)
  | _ => cases e'
theorem Ok.draws {S : Spec} (hm : P.follows .mixedOrders = true) {ops : List CO} {ch : Option (List Nat × List (Nat × List Nat))} {t' : F} {h' : H} (e : ∀ k : F → H → Bool, execDr (cfS P S) ops t h k = k t' h') (k : K .normal t' h') : Ok P nt (.draws ops ch) t h K := by
  refine ⟨.normal, t', h', by_scopes _ fun c e' hs => ?_, k⟩
  cases c with
  | region id os draw =>
    have e1 : compRegion P nt os.toList draw = .draws ops ch := e'
    obtain ⟨rfl, hd, e1⟩ := reg_dr e1
    cases e1
    obtain ⟨t1, h1, a1, a2, a3, a4⟩ := draws_ok hm (cfS_ok P S) hd (e fun _ _ => true)
    have hth : t1 = t' ∧ h1 = h' := by
      have := (a1 fun t2 h2 => @decide (t2 = t1 ∧ h2 = h1) (Classical.propDecidable _))
      rw [e] at this
      simp at this
      exact ⟨this.1.symm, this.2.symm⟩
    obtain ⟨rfl, rfl⟩ := hth
    exact ⟨a2, a3, fun ρ a w w0 Q A R hQ => a4 ρ a w w0 id Q A R hQ⟩
  | scope d => exact absurd rfl (hs d)
  | _ => cases e'
end
/-- A FUNCTION: its body from its arguments on -/
theorem fn_ok {P : Program} {f : FuncId} {fn : Func} {body : Code} {cc : CC} {rs : List Rs} {vs : List V} {h : H} {K : V → H → Prop} (hfn : P.funcs.toList[f]? = some fn) (hb : fn.body = some body) (hnm : (fn.name == "runtime.NumGoroutine") = false)
    (hcc : comp P fn.ntmps body = cc) (hrs : fn.results.toList.map (rsOf P) = rs) (hl1 : vs.length ≤ fn.ntmps) (hl2 : vs.length ≤ 512)
    (ok : Ok P fn.ntmps cc (slotsF vs 0 F.zero) h fun x t' h' => match x with
      | .exit _ => False
      | _ => ∃ us, (∀ k : List V → Bool, resK rs t' h' k = k us) ∧ K (one us) h') : FnOk P f vs h K := by
  obtain ⟨x, t', h', s, k⟩ := ok
  obtain ⟨x2, x3, x4⟩ := s body hcc
  have hfn' : P.funcs[f]? = some fn := by simpa using hfn
  have hx : (x = .normal ∨ x = .ret) ∧ ∃ us, (∀ k : List V → Bool, resK rs t' h' k = k us) ∧ K (one us) h' := by
    cases x with
    | exit id => exact k.elim
    | normal => exact ⟨.inl rfl, k⟩
    | ret => exact ⟨.inr rfl, k⟩
  obtain ⟨r2, us, r1, kk⟩ := hx
  obtain ⟨us', q1, q2⟩ := results_ok (nt := fn.ntmps) (fn := fn) (P := P) (t := t') (h := h') (k := fun _ => true) (by rw [hrs, r1])
  have hus : us' = us := by
    have := q1 fun u => @decide (u = us') (Classical.propDecidable _)
    rw [hrs, r1] at this
    simp at this
    exact this.symm
  subst hus
  refine ⟨one us', h', ⟨x2, x3, fun ρ w w0 args hargs R => ?_⟩, kk⟩
  have hal := hargs.length
  obtain ⟨t0, s1, s2, s3⟩ := slots_ok vs 0 F.zero (fun _ => true) (by omega)
  have ht0 : t0 = slotsF vs 0 F.zero := by
    have := s1 fun u => @decide (u = t0) (Classical.propDecidable _)
    rw [slots_slotsF] at this
    simp at this
    exact this.symm
  constructor
  · have hp : (program : Sem Program).run P w = .ok P w := rfl
    unfold callFunc
    simp only [Sem.run_bind, hp, Result.andThen_ok, hfn', hnm, Bool.false_eq_true, if_false, hb, Option.isNone_some]
    rfl
  · refine calls_of_wp hfn' hb ?_
    have A0 : ARel ρ fn.ntmps t0 { tmps := args.toArray ++ Array.replicate (fn.ntmps - args.toArray.size) undef, defers := [] } := by
      refine ⟨rfl, by simp; omega, fun m hm => ?_⟩
      by_cases hmv : m < vs.length
      · have hv : vs[m]? = some (vs[m]'hmv) := by simp
        obtain ⟨y, y1, y2⟩ := hargs.get hv
        have := s2 m _ hv
        rw [Nat.zero_add] at this
        rw [this]
        have hy : (args.toArray ++ Array.replicate (fn.ntmps - args.toArray.size) undef).getD m undef = y := by
          have hma : m < args.length := by omega
          rw [Array.getD_eq_getD_getElem?, Array.getElem?_append_left (by simpa using hma)]
          simp [y1]
        rw [hy]; exact y2
      · rw [s3 m hm (.inr (by omega)), zero_slot]; trivial
    rw [ht0] at A0
    refine x4 ρ _ w w0 _ A0 R fun ρ' a' w' hle A' R' => ?_
    obtain ⟨y, y1, y2⟩ := q2 ρ' a' w' w0 A' R'
    rcases r2 with rfl | rfl
    · exact ⟨A'.defers, y, y2, y, rfl, ρ', hle, y1, R'⟩
    · exact ⟨A'.defers, y, y2, y, rfl, ρ', hle, y1, R'⟩
end Go.Ev

set_option linter.all false
namespace Go.Ev
open Go
structure Ops (P : Program) (S : Spec) (l : List CO) (t : F) (h : H) (K : F → H → Prop) : Prop where
  run : ∃ t' h', (∀ k, execOps (cfS P S) l t h k = k t' h') ∧ K t' h'
structure Drs (P : Program) (S : Spec) (l : List CO) (t : F) (h : H) (K : F → H → Prop) : Prop where
  run : ∃ t' h', (∀ k, execDr (cfS P S) l t h k = k t' h') ∧ K t' h'
section
variable {P : Program} {S : Spec} {nt : Nat} {l : List CO} {t : F} {h : H} {K : F → H → Prop}
theorem Ok.ops {K : X → F → H → Prop} (k : Ops P S l t h (K .normal)) : Ok P nt (.region l) t h K := by
  obtain ⟨t', h', a1, a2⟩ := k
  exact Ok.region a1 a2
theorem Ops.nil (k : K t h) : Ops P S [] t h K := ⟨t, h, fun _ => rfl, k⟩
theorem Drs.nil (k : K t h) : Drs P S [] t h K := ⟨t, h, fun _ => rfl, k⟩
theorem Ops.op {n : Nat} {b : Bool} {r : Run} {v : V} {h1 : H} (e : ∀ k, r (cfS P S) t h k = k v h1) (k : Ops P S l (put n v t) h1 K) : Ops P S (.mk .none (.some (slOf n)) b (.mk r) :: l) t h K := by
  obtain ⟨t', h', a1, a2⟩ := k
  refine ⟨t', h', fun k => ?_, a2⟩
  show r (cfS P S) t h (fun v h => sPut (slOf n) v t fun t => execOps (cfS P S) l t h k) = _
  rw [e, sPut_put, a1]
theorem Ops.op0 {b : Bool} {r : Run} {v : V} {h1 : H} (e : ∀ k, r (cfS P S) t h k = k v h1) (k : Ops P S l t h1 K) : Ops P S (.mk .none .none b (.mk r) :: l) t h K := by
  obtain ⟨t', h', a1, a2⟩ := k
  refine ⟨t', h', fun k => ?_, a2⟩
  show r (cfS P S) t h (fun v h => execOps (cfS P S) l t h k) = _
  rw [e, a1]
theorem Ops.guard {g n : Nat} {w q : Bool} {b : Bool} {r : CR} (e : get g t = .b q) (k1 : q = w → Ops P S (.mk .none (.some (slOf n)) b r :: l) t h K) (k2 : q = (!w) → Ops P S l (put n (.tu []) t) h K) :
    Ops P S (.mk (.some (slOf g) w) (.some (slOf n)) b r :: l) t h K := by
  have e0 : ∀ k, execOps (cfS P S) (.mk (.some (slOf g) w) (.some (slOf n)) b r :: l) t h k = vG (get g t) w fun x => opGo x r (.some (slOf n)) (cfS P S) (execOps (cfS P S) l) t h k := fun _ => rfl
  have e1 : ∀ f, vG (.b q) w f = f (xor (xor q w) true) := fun _ => rfl
  by_cases hq : q = w
  · obtain ⟨t', h', a1, a2⟩ := k1 hq
    refine ⟨t', h', fun k => ?_, a2⟩
    rw [e0, e, e1, hq]
    have : xor (xor w w) true = true := by cases w <;> rfl
    rw [this]
    exact a1 k
  · have hq' : q = !w := by cases q <;> cases w <;> simp_all
    obtain ⟨t', h', a1, a2⟩ := k2 hq'
    refine ⟨t', h', fun k => ?_, a2⟩
    rw [e0, e, e1, hq']
    have : xor (xor (!w) w) true = false := by cases w <;> rfl
    rw [this]
    show sPut (slOf n) (.tu []) t (fun t => execOps (cfS P S) l t h k) = _
    rw [sPut_put, a1]
theorem Ops.g1 {g n : Nat} {w : Bool} {b : Bool} {r : CR} (e : get g t = .b w) (k : Ops P S (.mk .none (.some (slOf n)) b r :: l) t h K) : Ops P S (.mk (.some (slOf g) w) (.some (slOf n)) b r :: l) t h K :=
  Ops.guard e (fun _ => k) fun h => by cases w <;> cases h
theorem evalsK_eq (t : F) (k : List V → Bool) : ∀ os : List O, evalsK os t k = k (os.map fun o => oV o t) := by
  intro os
  induction os generalizing k with
  | nil => rfl
  | cons o os ih =>
    have e : evalsK (o :: os) t k = oK o t fun v => evalsK os t fun vs => k (v :: vs) := rfl
    rw [e, oK_eq, ih]; rfl
/-- a call: by the function's specification -/
theorem Ops.call {n : Nat} {b : Bool} {f : FuncId} {args : List O} {vs : List V} (e : args.map (fun o => oV o t) = vs) (hf : FnOk P f vs h (S f vs h)) (k : ∀ v h1, S f vs h v h1 → Ops P S l (put n v t) h1 K) :
    Ops P S (.mk .none (.some (slOf n)) b (.mk (doCall f args)) :: l) t h K := by
  obtain ⟨v, h1, c1, c2⟩ := cfS_call hf
  refine Ops.op (v := v) (h1 := h1) (fun k => ?_) (k v h1 c2)
  show evalsK args t (fun vs => cfS P S f vs h k) = _
  rw [evalsK_eq, e, c1]
theorem Drs.op {n : Nat} {r : Run} {v : V} {h1 : H} (e : ∀ k, r (cfS P S) t (reFloor h) k = k v h1) (k : Drs P S l (put n v t) (unFloor h h1) K) : Drs P S (.mk .none (.some (slOf n)) false (.mk r) :: l) t h K := by
  obtain ⟨t', h', a1, a2⟩ := k
  refine ⟨t', h', fun k => ?_, a2⟩
  show r (cfS P S) t (reFloor h) (fun v h2 => sPut (slOf n) v t fun t => execDr (cfS P S) l t (unFloor h h2) k) = _
  rw [e, sPut_put, a1]
theorem Drs.guard {g n : Nat} {w q : Bool} {b : Bool} {r : CR} (e : get g t = .b q) (k1 : q = w → Drs P S (.mk .none (.some (slOf n)) b r :: l) t h K) (k2 : q = (!w) → Drs P S l (put n (.tu []) t) h K) :
    Drs P S (.mk (.some (slOf g) w) (.some (slOf n)) b r :: l) t h K := by
  have e0 : ∀ k, execDr (cfS P S) (.mk (.some (slOf g) w) (.some (slOf n)) b r :: l) t h k = vG (get g t) w fun x => drGo x b r (.some (slOf n)) (cfS P S) (execDr (cfS P S) l) t h k := fun _ => rfl
  have e1 : ∀ f, vG (.b q) w f = f (xor (xor q w) true) := fun _ => rfl
  by_cases hq : q = w
  · obtain ⟨t', h', a1, a2⟩ := k1 hq
    refine ⟨t', h', fun k => ?_, a2⟩
    rw [e0, e, e1, hq]
    have : xor (xor w w) true = true := by cases w <;> rfl
    rw [this]
    exact a1 k
  · have hq' : q = !w := by cases q <;> cases w <;> simp_all
    obtain ⟨t', h', a1, a2⟩ := k2 hq'
    refine ⟨t', h', fun k => ?_, a2⟩
    rw [e0, e, e1, hq']
    have : xor (xor (!w) w) true = false := by cases w <;> rfl
    rw [this]
    show sPut (slOf n) (.tu []) t (fun t => execDr (cfS P S) l t h k) = _
    rw [sPut_put, a1]
theorem Drs.g1 {g n : Nat} {w : Bool} {b : Bool} {r : CR} (e : get g t = .b w) (k : Drs P S (.mk .none (.some (slOf n)) b r :: l) t h K) : Drs P S (.mk (.some (slOf g) w) (.some (slOf n)) b r :: l) t h K :=
  Drs.guard e (fun _ => k) fun h => by cases w <;> cases h
theorem Drs.call {n : Nat} {f : FuncId} {args : List O} {vs : List V} (e : args.map (fun o => oV o t) = vs) (hf : FnOk P f vs (reFloor h) (S f vs (reFloor h))) (k : ∀ v h1, S f vs (reFloor h) v h1 → Drs P S l (put n v t) (unFloor h h1) K) :
    Drs P S (.mk .none (.some (slOf n)) false (.mk (doCall f args)) :: l) t h K := by
  obtain ⟨v, h1, c1, c2⟩ := cfS_call hf
  refine Drs.op (v := v) (h1 := h1) (fun k => ?_) (k v h1 c2)
  show evalsK args t (fun vs => cfS P S f vs (reFloor h) k) = _
  rw [evalsK_eq, e, c1]
end
section
variable {K' : F → H → Prop} {K : X → F → H → Prop} {t : F} {h : H} {id j : Nat}
theorem Out_n : Out id K .normal t h = K .normal t h := rfl
theorem Out_e : Out id K (.exit j) t h = if j = id then K .normal t h else K (.exit j) t h := rfl
theorem Out_r : Out id K .ret t h = K .ret t h := rfl
end
section
variable (cf : CallF) (t : F) (h : H) (k : V → H → Bool) (o x y c : O)
theorem ev_move : doMove o cf t h k = k (oV o t) h := by simp only [doMove, oK_eq]
theorem ev_pick : doPick c x y cf t h k = vB (oV c t) fun q => k (cond q (oV x t) (oV y t)) h := by
  simp only [doPick, oE_eq, oK_eq]
  congr 1; funext q; cases q <;> rfl
theorem ev_bin (f : BinF) : bin2 f x y cf t h k = vI (oV x t) fun kd a => vI (oV y t) fun kd' b => ifK (kdEq kd kd') fun _ => f kd a b fun v => k v h := by simp only [bin2, oE_eq]
theorem ev_not : doNot x cf t h k = vB (oV x t) fun a => k (.b (!a)) h := by simp only [doNot, oE_eq, fB_eq]
theorem ev_bool (ne : Bool) : doBool ne x y cf t h k = vB (oV x t) fun a => vB (oV y t) fun b => k (.b (xor ne (xor (xor a b) true))) h := by simp only [doBool, oE_eq, fB_eq]
theorem ev_extract (j : Nat) : doExtract j x cf t h k = vT (oV x t) fun vs => optK (vs[j]?) fun v => k v h := by simp only [doExtract, oE_eq, forceV_eq]
theorem ev_lenS : doLenS x cf t h k = vS (oV x t) fun n _ => k (.i .i64 (.ofNat n)) h := by simp only [doLenS, oE_eq]
theorem ev_load : doLoad o cf t h k = vP (oV o t) fun id g off fin => load1 h id g off fin fun v => k v h := by simp only [doLoad, oE_eq]
theorem ev_loadA (size : Nat) : doLoadA size o cf t h k = vP (oV o t) fun id g off fin => loadN h id g off fin size fun vs => k (.a vs) h := by simp only [doLoadA, oE_eq]
theorem ev_fieldAddr (d : Nat) : doFieldAddr d o cf t h k = vP (oV o t) fun id g off fin => k (.p id g (off + d) fin) h := by simp only [doFieldAddr, oE_eq, fN_eq]; rfl
theorem ev_field (d : Nat) : doField d o cf t h k = vA (oV o t) fun cs => optK (cs[d]?) fun v => k v h := by simp only [doField, oE_eq, forceV_eq]
theorem ev_fieldA (d size : Nat) : doFieldA d size o cf t h k = vA (oV o t) fun cs => k (.a ((cs.drop d).take size)) h := by simp only [doFieldA, oE_eq]
theorem ev_nilCheck : doNilCheck o cf t h k = vP (oV o t) fun id g off fin => k (.p id g off fin) h := by simp only [doNilCheck, oE_eq]
theorem ev_min : doMin x y cf t h k = vI (oV x t) fun kd a => vI (oV y t) fun kd' b => ifK (kdEq kd kd') fun _ => k (.i kd (min a b)) h := by
  simp only [doMin, oE_eq, ltI_eq]
  congr 1; funext kd a; congr 1; funext kd' b
  congr 1; funext _
  by_cases hba : b < a
  · simp [hba, boolK]; rw [Int.min_eq_right (by omega)]
  · simp [hba, boolK]; rw [Int.min_eq_left (by omega)]
theorem ev_max : doMax x y cf t h k = vI (oV x t) fun kd a => vI (oV y t) fun kd' b => ifK (kdEq kd kd') fun _ => k (.i kd (max a b)) h := by
  simp only [doMax, oE_eq, ltI_eq]
  congr 1; funext kd a; congr 1; funext kd' b
  congr 1; funext _
  by_cases hba : a < b
  · simp [hba, boolK]; rw [Int.max_eq_right (by omega)]
  · simp [hba, boolK]; rw [Int.max_eq_left (by omega)]
end
section
variable (kd : IntKind) (a b : Int) (k : V → Bool)
theorem f_add : fAdd kd a b k = k (.i kd (kd.wrap (a + b))) := wrapF_eq _ _ _
theorem f_sub : fSub kd a b k = k (.i kd (kd.wrap (a - b))) := wrapF_eq _ _ _
theorem f_mul : fMul kd a b k = k (.i kd (kd.wrap (a * b))) := wrapF_eq _ _ _
theorem f_lss : fLss kd a b k = k (.b (decide (a < b))) := by simp only [fLss, fB_eq, ltI_eq]
theorem f_gtr : fGtr kd a b k = k (.b (decide (b < a))) := by simp only [fGtr, fB_eq, ltI_eq]
theorem f_leq : fLeq kd a b k = k (.b (decide (a ≤ b))) := by
  simp only [fLeq, fB_eq, ltI_eq]; congr 2
  by_cases h : b < a
  · simp [h]
  · simp [h]; omega
theorem f_geq : fGeq kd a b k = k (.b (decide (b ≤ a))) := by
  simp only [fGeq, fB_eq, ltI_eq]; congr 2
  by_cases h : a < b
  · simp [h]
  · simp [h]; omega
theorem f_eql : fEql kd a b k = k (.b (decide (a = b))) := by simp only [fEql, fB_eq, eqI_eq]; congr 2
theorem f_neq : fNeq kd a b k = k (.b (!decide (a = b))) := by simp only [fNeq, fB_eq, eqI_eq]; congr 2
end
theorem kdEq_self (kd : IntKind) : kdEq kd kd = true := by cases kd <;> rfl
theorem wrap_i64 {n : Int} (h1 : -9223372036854775808 ≤ n) (h2 : n ≤ 9223372036854775807) : IntKind.i64.wrap n = n := by
  cases n with
  | ofNat m => exact wrap_small .i64 m (by show m ≤ 9223372036854775807; simp at h2; omega)
  | negSucc m =>
    simp only [IntKind.wrap, IntKind.bits, IntKind.signed]
    have e : Int.negSucc m % (2 ^ 64 : Int) = 2 ^ 64 - (m + 1) := by omega
    simp [e]
    omega
noncomputable def cellB (blk : Option Blk) (g off : Nat) : Option V := match blk with
  | some b => if b.min ≤ g then b.cells.getN off else none
  | none => none
noncomputable def cell (h : H) (id : B) (g off : Nat) : Option V := cellB (h.heap.get id) g off
theorem load1_cell {h : H} {id : B} {g off fin : Nat} {v : V} (hc : cell h id g off = some v) (hf : off < fin) (k : V → Bool) : load1 h id g off fin k = k v := by
  obtain ⟨next, floor, heap⟩ := h
  unfold cell cellB at hc
  simp only at hc
  split at hc
  · rename_i blk hb
    obtain ⟨cur, min, size, cells, el, fr⟩ := blk
    simp only at hc
    split at hc
    · rename_i hm
      have h1 : Nat.ble min g = true := by rw [Nat.ble_eq]; exact hm
      have h2 : Nat.ble (Nat.succ off) fin = true := by rw [Nat.ble_eq]; exact hf
      simp only [load1, hK_mk, hb, optK_some, blkK_mk, h1, h2, ifK_true, hc, forceV_eq]
    · cases hc
  · cases hc
theorem getList_cells (cells : T V) : ∀ (n off : Nat) (vs : List V) (k : List V → Bool), vs.length = n → (∀ i v, vs[i]? = some v → cells.getN (off + i) = some v) → getList n cells off k = k vs
  | 0, off, vs, k, hl, _ => by
    have : vs = [] := List.eq_nil_of_length_eq_zero hl
    subst this; rfl
  | n + 1, off, vs, k, hl, hv => by
    cases vs with
    | nil => simp at hl
    | cons v vs =>
      have e : getList (n + 1) cells off k = optK (cells.getN off) fun v => getList n cells (off + 1) fun vs => k (v :: vs) := rfl
      have h0 := hv 0 v rfl
      rw [Nat.add_zero] at h0
      rw [e, h0, optK_some, getList_cells cells n (off + 1) vs _ (by simpa using hl) fun i u hu => by have := hv (i + 1) u (by simpa using hu); rwa [show off + (i + 1) = off + 1 + i by omega] at this]
/-- some cells, one behind the other -/
def Row (h : H) (id : B) (g off : Nat) (vs : List V) : Prop := (vs ≠ [] → ∃ b, h.heap.get id = some b ∧ b.min ≤ g) ∧ ∀ i v, vs[i]? = some v → cell h id g (off + i) = some v
theorem loadN_row {h : H} {id : B} {g off fin n : Nat} {vs : List V} (hr : Row h id g off vs) (hn : vs.length = n) (hne : vs ≠ []) (hf : off + n ≤ fin) (k : List V → Bool) : loadN h id g off fin n k = k vs := by
  obtain ⟨next, floor, heap⟩ := h
  obtain ⟨hr1, hc⟩ := hr
  obtain ⟨b, hb, hm⟩ := hr1 hne
  obtain ⟨cur, min, size, cells, el, fr⟩ := b
  have h1 : Nat.ble min g = true := by rw [Nat.ble_eq]; exact hm
  have h2 : Nat.ble (Nat.add off n) fin = true := by rw [Nat.ble_eq]; exact hf
  simp only [loadN, hK_mk]
  have hb' : heap.get id = some ⟨cur, min, size, cells, el, fr⟩ := hb
  simp only [hb', optK_some, blkK_mk, h1, h2, ifK_true]
  refine getList_cells cells n off vs k hn fun i v hv => ?_
  have := hc i v hv
  unfold cell cellB at this
  simp only [hb'] at this
  rwa [if_pos hm] at this
theorem setN_fine : ∀ (f n : Nat) (x : V) (t : T V) (k : T V → Bool), n + 1 < 2 ^ f → (∀ t', k t' = true) → T.setN f x t n k = true := by
  intro f
  induction f with
  | zero => intro n x t k h; simp at h
  | succ f ih =>
    intro n x t k h hk
    cases n with
    | zero => cases t <;> exact hk _
    | succ m =>
      have e : T.setN (f + 1) x t (m + 1) k = nS2 (m % 2) m (T.setN f) x t k := rfl
      have hm : m / 2 + 1 < 2 ^ f := by rw [Nat.pow_succ] at h; omega
      rw [e]
      rcases Nat.mod_two_eq_zero_or_one m with hp | hp
      · have e2 : nS2 (m % 2) m (T.setN f) x t k = nO t (T.setN f) x (m / 2) k := by rw [hp]; rfl
        rw [e2]
        cases t with
        | o => exact ih _ _ _ _ hm fun _ => hk _
        | n l v r => exact ih _ _ _ _ hm fun _ => hk _
      · have e2 : nS2 (m % 2) m (T.setN f) x t k = nI t (T.setN f) x (m / 2) k := by rw [hp]; rfl
        rw [e2]
        cases t with
        | o => exact ih _ _ _ _ hm fun _ => hk _
        | n l v r => exact ih _ _ _ _ hm fun _ => hk _
theorem setList_fine : ∀ (vs : List V) (n : Nat) (t : T V), n + vs.length < 2 ^ 38 → ∃ t', (∀ k, setList vs n t k = k t') ∧ (∀ i v, vs[i]? = some v → t'.getN (n + i) = some v) ∧ ∀ m, m < n ∨ n + vs.length ≤ m → t'.getN m = t.getN m := by
  have fine : ∀ (vs : List V) (n : Nat) (t : T V) (k : T V → Bool), n + vs.length < 2 ^ 38 → (∀ t', k t' = true) → setList vs n t k = true := by
    intro vs
    induction vs with
    | nil => intro n t k _ hk; exact hk t
    | cons v vs ih =>
      intro n t k hl hk
      exact setN_fine 40 n v t _ (by simp at hl; omega) fun t' => ih (n + 1) t' k (by simp at hl; omega) hk
  intro vs n t hl
  exact setList_ok vs n t (fun _ => true) (fine vs n t _ hl fun _ => rfl)
/-- what of a state stays: all blocks that there are, but those of which p holds -/
structure Stay (p : B → Prop) (h h' : H) : Prop where
  floor : h'.floor = h.floor
  next : B.val h.next ≤ B.val h'.next
  get : ∀ id, B.val id < B.val h.next → ¬ p id → h'.heap.get id = h.heap.get id
theorem Stay.refl (p : B → Prop) (h : H) : Stay p h h := ⟨rfl, Nat.le_refl _, fun _ _ _ => rfl⟩
theorem Stay.trans {p : B → Prop} {a b c : H} (x : Stay p a b) (y : Stay p b c) : Stay p a c :=
  ⟨y.floor.trans x.floor, Nat.le_trans x.next y.next, fun id h1 h2 => (y.get id (Nat.lt_of_lt_of_le h1 x.next) h2).trans (x.get id h1 h2)⟩
theorem Stay.mono {p q : B → Prop} {a b : H} (x : Stay p a b) (h : ∀ id, B.val id < B.val a.next → p id → q id) : Stay q a b := ⟨x.floor, x.next, fun id h1 h2 => x.get id h1 fun h3 => h2 (h id h1 h3)⟩
def nowhere : B → Prop := fun _ => False
theorem Stay.cell {p : B → Prop} {h h' : H} (x : Stay p h h') {id : B} (h1 : B.val id < B.val h.next) (h2 : ¬ p id) (g off : Nat) : cell h' id g off = cell h id g off := by
  unfold Ev.cell; rw [x.get id h1 h2]
/-- a new block -/
theorem alloc_new (el : Nat) (cs : List V) (h : H) (hl : cs.length < 2 ^ 38) : ∃ h', (∀ k, alloc el cs h k = k h.next h') ∧ Stay nowhere h h' ∧ B.val h'.next = B.val h.next + 1 ∧
    (∃ b, h'.heap.get h.next = some b ∧ b.min = 0 ∧ b.cur = 0 ∧ b.size = cs.length ∧ b.el = el ∧ b.fr = 0 ∧ ∀ i v, cs[i]? = some v → b.cells.getN i = some v) := by
  obtain ⟨next, floor, heap⟩ := h
  obtain ⟨tr, t1, t2, t3⟩ := setList_fine cs 0 .o (by omega)
  obtain ⟨hp, s1, s2, s3⟩ := setK_ok next (⟨0, 0, cs.length, tr, el, 0⟩ : Blk) heap
  obtain ⟨nx, n1, n2⟩ := incK_ok next
  refine ⟨⟨nx, floor, hp⟩, fun k => ?_, ⟨rfl, by show B.val next ≤ B.val nx; omega, fun id h1 _ => s3 id fun e => by rw [e] at h1; exact absurd h1 (Nat.lt_irrefl _)⟩, n2, ⟨0, 0, cs.length, tr, el, 0⟩, s2, rfl, rfl, rfl, rfl, rfl, fun i v hv => ?_⟩
  · show fN cs.length (fun sz => setList cs 0 .o fun t => T.setK next ⟨0, 0, sz, t, el, 0⟩ heap fun heap => B.incK next fun next' => k next ⟨next', floor, heap⟩) = _
    rw [fN_eq, t1, s1, n1]
  · have := t2 i v hv
    rwa [Nat.zero_add] at this
/-- the slice v reads as the cells xs (elements of one cell) -/
def Lst (h : H) (v : V) (xs : List V) : Prop :=
  (v = .l0 ∧ xs = []) ∨ ∃ id g off fin cap, v = .l id g off xs.length fin cap ∧ off + xs.length ≤ fin ∧ B.val id < B.val h.next ∧ Row h id g off xs
def lid : V → B | .l id _ _ _ _ _ => id | _ => .h
def lg : V → Nat | .l _ g _ _ _ _ => g | _ => 0
def loff : V → Nat | .l _ _ off _ _ _ => off | _ => 0
def lfin : V → Nat | .l _ _ _ _ fin _ => fin | _ => 0
noncomputable def lenV (v : V) (k : Nat → Bool) : Bool := vL v (fun _ => k 0) fun _ _ _ n _ _ => k n
noncomputable def idxV (size : Nat) (v : V) (n : Nat) (k : V → Bool) : Bool := vL v (fun _ => false) fun id g off len fin _ => ifK (Nat.ble (n + 1) len) fun _ => k (.p id g (off + n * size) fin)
theorem ev_len (x : O) (cf : CallF) (t : F) (h : H) (k : V → H → Bool) : doLen x cf t h k = lenV (oV x t) fun n => k (.i .i64 (n : Int)) h := by simp only [doLen, oE_eq]; rfl
theorem ev_idx (size : Nat) (o x : O) (cf : CallF) (t : F) (h : H) (k : V → H → Bool) : doIndexAddr size o x cf t h k = vI (oV x t) fun _ n => natK n fun n => idxV size (oV o t) n fun p => k p h := by
  have no : ∀ u : V, (vI u fun _ n => natK n fun _ => false) = false := by
    intro u
    cases u <;> first | rfl | (rename_i kd n; cases n <;> rfl)
  simp only [doIndexAddr, oE_eq]
  generalize oV o t = v
  generalize oV x t = u
  have hn : ∀ w : V, (∀ z k, vL w z k = false) → (vI u fun _ n => natK n fun n => idxV size w n fun p => k p h) = false := by
    intro w hw
    have : (fun (_ : IntKind) (n : Int) => natK n fun n => idxV size w n fun p => k p h) = fun _ n => natK n fun _ => false := by
      funext _ n; congr 1; funext n; exact hw _ _
    rw [this]; exact no u
  cases v with
  | l id g off len fin cap => simp only [vL_l, fN_eq]; rfl
  | l0 =>
    have : (vI u fun _ n => natK n fun n => idxV size .l0 n fun p => k p h) = false := no u
    rw [this]; rfl
  | _ => rw [hn _ fun _ _ => rfl]; rfl
theorem natK_cast (i : Nat) (k : Nat → Bool) : natK (i : Int) k = k i := rfl
theorem Lst.len {h0 : H} {v : V} {xs : List V} (a : Lst h0 v xs) (k : Nat → Bool) : lenV v k = k xs.length := by
  rcases a with ⟨rfl, rfl⟩ | ⟨id, g, off, fin, cap, rfl, _⟩ <;> rfl
theorem Lst.idx {h0 : H} {v : V} {xs : List V} {i : Nat} (a : Lst h0 v xs) (hi : i < xs.length) (k : V → Bool) : idxV 1 v i k = k (.p (lid v) (lg v) (loff v + i) (lfin v)) := by
  rcases a with ⟨rfl, rfl⟩ | ⟨id, g, off, fin, cap, rfl, _⟩
  · simp at hi
  · have h1 : Nat.ble (i + 1) xs.length = true := by rw [Nat.ble_eq]; exact hi
    show ifK (Nat.ble (i + 1) xs.length) (fun _ => k (.p id g (off + i * 1) fin)) = _
    rw [h1, ifK_true, Nat.mul_one]; rfl
theorem load_lst {h : H} {v : V} {xs : List V} {i : Nat} {y : V} (a : Lst h v xs) (hy : xs[i]? = some y) (k : V → Bool) : load1 h (lid v) (lg v) (loff v + i) (lfin v) k = k y := by
  have hi := (List.getElem?_eq_some_iff.1 hy).1
  rcases a with ⟨rfl, rfl⟩ | ⟨id, g, off, fin, cap, rfl, h2, _, h4⟩
  · simp at hi
  · exact load1_cell (h4.2 i y hy) (by show off + i < fin; omega) k
theorem Row.stay {p : B → Prop} {h h' : H} {id : B} {g off : Nat} {vs : List V} (r : Row h id g off vs) (s : Stay p h h') (h1 : B.val id < B.val h.next) (h2 : ¬ p id) : Row h' id g off vs := by
  obtain ⟨r1, r2⟩ := r
  exact ⟨(fun hne => by obtain ⟨b, b1, b2⟩ := r1 hne; exact ⟨b, (s.get id h1 h2).trans b1, b2⟩), fun i v hv => (s.cell h1 h2 g (off + i)).trans (r2 i v hv)⟩
theorem Lst.stay {p : B → Prop} {h h' : H} {v : V} {xs : List V} (a : Lst h v xs) (s : Stay p h h') (hp : ∀ id g off n fin cap, v = .l id g off n fin cap → ¬ p id) : Lst h' v xs := by
  rcases a with ⟨rfl, rfl⟩ | ⟨id, g, off, fin, cap, rfl, h2, h3, h4⟩
  · exact .inl ⟨rfl, rfl⟩
  · exact .inr ⟨id, g, off, fin, cap, rfl, h2, Nat.lt_of_lt_of_le h3 s.next, h4.stay s h3 (hp _ _ _ _ _ _ rfl)⟩
theorem Lst.grow {h h' : H} {v : V} {xs : List V} (a : Lst h v xs) (s : Stay nowhere h h') : Lst h' v xs := a.stay s fun _ _ _ _ _ _ _ => id
/-- a slice of bools -/
def Bl (h : H) (v : V) (R : List Bool) : Prop := Lst h v (R.map V.b)
theorem Bl.grow {h h' : H} {v : V} {R : List Bool} (a : Bl h v R) (s : Stay nowhere h h') : Bl h' v R := Lst.grow a s
theorem Bl.len {h0 : H} {v : V} {R : List Bool} (a : Bl h0 v R) (k : Nat → Bool) : lenV v k = k R.length := by
  rw [Lst.len a]; simp
theorem Bl.idx {h0 : H} {v : V} {R : List Bool} {i : Nat} (a : Bl h0 v R) (hi : i < R.length) (k : V → Bool) : idxV 1 v i k = k (.p (lid v) (lg v) (loff v + i) (lfin v)) := Lst.idx a (by simpa using hi) k
theorem Bl.rd {h : H} {v : V} {R : List Bool} {i : Nat} (a : Bl h v R) (hi : i < R.length) (k : V → Bool) : load1 h (lid v) (lg v) (loff v + i) (lfin v) k = k (.b (R.getD i false)) :=
  load_lst a (by simp [hi]) k
/-- a slice of slices of bools -/
def Mx (h : H) (v : V) (M : List (List Bool)) : Prop := ∃ rows, Lst h v rows ∧ rows.length = M.length ∧ ∀ i r, rows[i]? = some r → Bl h r (M.getD i [])
theorem Mx.grow {h h' : H} {v : V} {M : List (List Bool)} (a : Mx h v M) (s : Stay nowhere h h') : Mx h' v M := by
  obtain ⟨rows, r1, r2, r3⟩ := a
  exact ⟨rows, r1.grow s, r2, fun i r hr => (r3 i r hr).grow s⟩
theorem Mx.len {h0 : H} {v : V} {M : List (List Bool)} (a : Mx h0 v M) (k : Nat → Bool) : lenV v k = k M.length := by
  obtain ⟨rows, r1, r2, r3⟩ := a
  rw [r1.len, r2]
theorem Mx.idx {h0 : H} {v : V} {M : List (List Bool)} {i : Nat} (a : Mx h0 v M) (hi : i < M.length) (k : V → Bool) : idxV 1 v i k = k (.p (lid v) (lg v) (loff v + i) (lfin v)) := by
  obtain ⟨rows, r1, r2, r3⟩ := a
  exact r1.idx (by omega) k
theorem Mx.rd {h : H} {v : V} {M : List (List Bool)} {i : Nat} (a : Mx h v M) (hi : i < M.length) : ∃ r, Bl h r (M.getD i []) ∧ ∀ k : V → Bool, load1 h (lid v) (lg v) (loff v + i) (lfin v) k = k r := by
  obtain ⟨rows, r1, r2, r3⟩ := a
  have hi' : i < rows.length := by omega
  have hr : rows[i]? = some rows[i] := by simp
  exact ⟨rows[i], r3 i _ hr, load_lst r1 hr⟩
theorem res_1 (n : Nat) (t : F) (h : H) (k : List V → Bool) : resK [Rs.tmp (slOf n)] t h k = k [get n t] := by
  show forceV (sGet (slOf n) t) (fun v => k [v]) = _
  rw [forceV_eq]; rfl
theorem res_2 (n m : Nat) (t : F) (h : H) (k : List V → Bool) : resK [Rs.tmp (slOf n), Rs.tmp (slOf m)] t h k = k [get n t, get m t] := by
  show forceV (sGet (slOf n) t) (fun v => forceV (sGet (slOf m) t) fun u => k [v, u]) = _
  rw [forceV_eq, forceV_eq]; rfl
theorem one_1 (v : V) : one [v] = v := rfl
theorem one_2 (v u : V) : one [v, u] = .tu [v, u] := rfl
theorem Row.grow {h h' : H} {id : B} {g off : Nat} {vs : List V} (r : Row h id g off vs) (s : Stay nowhere h h') (h1 : B.val id < B.val h.next) : Row h' id g off vs := r.stay s h1 fun h => h
theorem Ops.box {P : Program} {S : Spec} {l : List CO} {t : F} {h : H} {K : F → H → Prop} {n : Nat} {b : Bool} {el : Nat} {o : O} {v : V} (e : oV o t = v) (hk : knownV v = true) (hl : (cells v).length < 2 ^ 38)
    (k : ∀ h1 id, Stay nowhere h h1 → B.val id < B.val h1.next → B.val h.next ≤ B.val id → Row h1 id 0 0 (cells v) → Ops P S l (put n (.p id 0 0 (cells v).length) t) h1 K) : Ops P S (.mk .none (.some (slOf n)) b (.mk (doBox el o)) :: l) t h K := by
  obtain ⟨h1, a1, a2, a3, blk, b1, b2, b3, b4, b5, b6, b7⟩ := alloc_new el (cells v) h hl
  refine Ops.op (v := .p h.next 0 0 (cells v).length) (h1 := h1) (fun k => ?_) (k h1 h.next a2 (by omega) (Nat.le_refl _) ⟨fun _ => ⟨blk, b1, by omega⟩, fun i y hy => ?_⟩)
  · show doBox el o _ t h k = _
    simp only [doBox, oK_eq, e, hk, ifK_true, a1]
  · unfold Ev.cell cellB
    rw [b1]
    show (if blk.min ≤ 0 then blk.cells.getN (0 + i) else none) = some y
    rw [if_pos (by omega), Nat.zero_add]
    exact b7 i y hy
/-- A FUNCTION, as it is compiled -/
theorem fn_run {P : Program} {f : FuncId} {nt : Nat} {cc : CC} {rs : List Rs} {vs : List V} {h : H} {K : V → H → Prop} (hc : compFn P f = ⟨nt, cc, rs⟩) (hbad : cc ≠ .bad) (hl1 : vs.length ≤ nt) (hl2 : vs.length ≤ 512)
    (ok : Ok P nt cc (slotsF vs 0 F.zero) h fun x t' h' => match x with
      | .exit _ => False
      | _ => ∃ us, (∀ k : List V → Bool, resK rs t' h' k = k us) ∧ K (one us) h') : FnOk P f vs h K := by
  unfold compFn at hc
  split at hc
  · cases hc; exact absurd rfl hbad
  · rename_i fn hfn
    split at hc
    · rename_i b hb hnm
      cases hc
      exact fn_ok hfn hb hnm rfl rfl hl1 hl2 ok
    · cases hc; exact absurd rfl hbad
end Go.Ev

set_option linter.all false
namespace Go.Ev
open Go
noncomputable def nb : Nat → B
  | 0 => .h
  | n + 1 => Classical.choose (incK_ok (nb n))
theorem nb_val : ∀ n, B.val (nb n) = n + 1
  | 0 => rfl
  | n + 1 => by
    have := (Classical.choose_spec (incK_ok (nb n))).2
    show B.val (Classical.choose (incK_ok (nb n))) = _
    rw [this, nb_val n]
theorem nb_inj {m n : Nat} (h : nb m = nb n) : m = n := by
  have := congrArg B.val h
  rw [nb_val, nb_val] at this; omega
def csz (W : World) (n : Nat) : Nat := match W.heap[n]? with
  | some (.cells c _ _) => c.size
  | _ => 0
open Classical in
noncomputable def emb0 (W : World) : Emb := fun id g => if e : g = 0 ∧ ∃ n, n < W.heap.size ∧ id = nb n then some ⟨Classical.choose e.2, 0, csz W (Classical.choose e.2), csz W (Classical.choose e.2), none⟩ else none
theorem emb0_eq {W : World} {n : Nat} (h : n < W.heap.size) : emb0 W (nb n) 0 = some ⟨n, 0, csz W n, csz W n, none⟩ := by
  have e : (0 : Nat) = 0 ∧ ∃ m, m < W.heap.size ∧ nb n = nb m := ⟨rfl, n, h, rfl⟩
  unfold emb0
  rw [dif_pos e]
  have := nb_inj (Classical.choose_spec e.2).2
  rw [← this]
theorem emb0_inv {W : World} {id : B} {g : Nat} {L : Loc} (h : emb0 W id g = some L) : ∃ n, n < W.heap.size ∧ id = nb n ∧ g = 0 ∧ L = ⟨n, 0, csz W n, csz W n, none⟩ := by
  unfold emb0 at h
  split at h
  · rename_i e
    cases h
    exact ⟨_, (Classical.choose_spec e.2).1, (Classical.choose_spec e.2).2, e.1, rfl⟩
  · cases h
noncomputable def absV (W : World) : Value → V
  | .bool b => .b b
  | .int k n => .i k n
  | .string bs => .s bs.size (pk bs.data.toList)
  | .pointer none => .p0
  | .pointer (some ⟨b, off, none⟩) => open Classical in if b < W.heap.size then .p (nb b) 0 off (csz W b) else .u
  | .slice none 0 0 => .l0
  | .slice (some ⟨b, off, none⟩) (n + 1) cap => open Classical in if b < W.heap.size ∧ n + 1 ≤ cap ∧ cap < 18446744073709551616 then .l (nb b) 0 off (n + 1) (csz W b) (some cap) else .u
  | .slice (some _) 0 _ => open Classical in if 0 < W.heap.size then .l (nb 0) 0 0 0 0 none else .u
  | .nilFunc => .f0
  | .nilIface => .x0
  | .map none => .m0
  | _ => .u
theorem absV_rel (W : World) (x : Value) : VRel (emb0 W) (absV W x) x := by
  unfold absV
  split
  · rfl
  · rfl
  · rename_i bs
    refine ⟨bs, rfl, rfl, foldl_pk0 _⟩
  · rfl
  · split
    · rename_i h
      exact ⟨_, emb0_eq h, rfl, Nat.zero_le _, Nat.le_refl _⟩
    · trivial
  · rfl
  · split
    · rename_i h
      exact ⟨_, _, _, emb0_eq h.1, rfl, h.2.1, Nat.zero_le _, Nat.le_refl _, .inr rfl, (fun d hd _ => by cases hd; rfl), (fun hd => absurd hd (Unk.no h.2.2))⟩
    · trivial
  · split
    · rename_i h
      exact ⟨_, _, _, emb0_eq h, rfl, Nat.zero_le _, Nat.zero_le _, Nat.zero_le _, .inl ⟨rfl, .inl rfl⟩, (fun d hd => by cases hd), (fun _ => .inl ⟨rfl, rfl⟩)⟩
    · trivial
  · rfl
  · rfl
  · rfl
  · trivial
theorem tree_of (vs : List V) : ∃ t : T V, ∀ (i : Nat) v, vs[i]? = some v → t.getN i = some v := by
  have key : ∀ n, ∃ t : T V, ∀ (i : Nat) v, i < n → vs[i]? = some v → t.getN i = some v := by
    intro n
    induction n with
    | zero => exact ⟨.o, fun i v h => absurd h (Nat.not_lt_zero i)⟩
    | succ n ih =>
      obtain ⟨t, ht⟩ := ih
      cases hv : vs[n]? with
      | none => exact ⟨t, fun i v hi h => by
          by_cases e : i = n
          · subst e; rw [hv] at h; cases h
          · exact ht i v (by omega) h⟩
      | some x =>
        obtain ⟨t', h1, h2, h3⟩ := setN_ok (n + 2) x t n (fun _ => true) (setN_fine (n + 2) n x t _ (Nat.lt_trans (Nat.lt_succ_self _) Nat.lt_two_pow_self) fun _ => rfl)
        refine ⟨t', fun i v hi h => ?_⟩
        by_cases e : i = n
        · subst e; rw [hv] at h; cases h; exact h2
        · rw [h3 i e]; exact ht i v (by omega) h
  obtain ⟨t, ht⟩ := key vs.length
  exact ⟨t, fun i v h => ht i v (List.getElem?_eq_some_iff.1 h).1 h⟩
/-- what is known of the n-th block -/
def BlkAt (W : World) (n : Nat) (b : Blk) : Prop := b.cur = 0 ∧ b.size = csz W n ∧ match W.heap[n]? with
  | some (.cells c el fz) => b.min = 0 ∧ b.el = el ∧ b.fr = fz.2 + 2 ∧ ∀ (i : Nat) x, c[i]? = some x → b.cells.getN i = some (absV W x)
  | _ => b.min = 1
theorem blk_at (W : World) (n : Nat) : ∃ b, BlkAt W n b := by
  unfold BlkAt csz
  cases h : W.heap[n]? with
  | none => exact ⟨⟨0, 1, 0, .o, 0, 0⟩, rfl, rfl, rfl⟩
  | some o =>
    cases o with
    | cells c el fz =>
      obtain ⟨t, ht⟩ := tree_of (c.toList.map (absV W))
      refine ⟨⟨0, 0, c.size, t, el, fz.2 + 2⟩, rfl, rfl, rfl, rfl, rfl, fun i x hx => ht i _ ?_⟩
      simp [hx]
    | _ => exact ⟨⟨0, 1, 0, .o, 0, 0⟩, rfl, rfl, rfl⟩
theorem heap_of (W : World) : ∀ k, ∃ hp : T Blk, ∀ n, n < k → ∃ b, hp.get (nb n) = some b ∧ BlkAt W n b := by
  intro k
  induction k with
  | zero => exact ⟨.o, fun n h => absurd h (Nat.not_lt_zero n)⟩
  | succ k ih =>
    obtain ⟨hp, h⟩ := ih
    obtain ⟨b, hb⟩ := blk_at W k
    obtain ⟨hp', s1, s2, s3⟩ := setK_ok (nb k) b hp
    refine ⟨hp', fun n hn => ?_⟩
    by_cases e : n = k
    · subst e; exact ⟨b, s2, hb⟩
    · obtain ⟨b', h1, h2⟩ := h n (by omega)
      exact ⟨b', (s3 _ fun he => e (nb_inj he)).trans h1, h2⟩
/-- THE STATE THAT A CALL BEGINS IN -/
theorem start (W : World) : ∃ h : H, HRel (emb0 W) h W W ∧ ∀ n, n < W.heap.size → B.val (nb n) < B.val h.next ∧ B.val (nb n) < B.val h.floor ∧ ∃ b, h.heap.get (nb n) = some b ∧ BlkAt W n b := by
  obtain ⟨hp, hh⟩ := heap_of W W.heap.size
  refine ⟨⟨nb W.heap.size, nb W.heap.size, hp⟩, ⟨?_, ?_, ?_, Nat.le_refl _, fun _ _ => rfl, ?_, rfl, rfl, rfl, Nat.le_refl _, ?_, ?_⟩, fun n hn => ⟨by show B.val (nb n) < B.val (nb _); rw [nb_val, nb_val]; omega, by show B.val (nb n) < B.val (nb _); rw [nb_val, nb_val]; omega, hh n hn⟩⟩
  · intro id g L hL
    obtain ⟨n, hn, rfl, rfl, rfl⟩ := emb0_inv hL
    obtain ⟨b, b1, b2, b3, b4⟩ := hh n hn
    refine ⟨b, b1, by omega, hn, Nat.zero_le _, fun _ => by show csz W n ≤ b.size; omega, fun _ => b3.symm, fun hm => ?_⟩
    cases hx : W.heap[n]? with
    | none => rw [Array.getElem?_eq_none_iff] at hx; omega
    | some o =>
      rw [hx] at b4
      cases o with
      | cells c el fz =>
        obtain ⟨c1, c2, c3, c4⟩ := b4
        have hcs : csz W n = c.size := by unfold csz; rw [hx]
        refine ⟨c, el, ⟨c2.symm, fz, hx, ?_⟩, hcs.symm, by show csz W n - 0 ≤ csz W n; omega, fun i _ hi => ?_⟩
        · rw [c3]; exact .inr (Nat.le_refl _)
        · have hi' : i < c.size := by rw [← hcs]; exact hi
          have hxi : c[i]? = some (c[i]'hi') := by simp
          exact ⟨absV W c[i], c[i], c4 i _ hxi, by simpa using hxi, absV_rel W _⟩
      | _ => exact absurd hm (by rw [b4]; exact Nat.not_succ_le_zero 0)
  · intro id g L hL
    obtain ⟨n, hn, rfl, rfl, rfl⟩ := emb0_inv hL
    show B.val (nb n) < B.val (nb _)
    rw [nb_val, nb_val]; omega
  · intro id g L id' g' L' hL hL' hb
    obtain ⟨n, hn, rfl, rfl, rfl⟩ := emb0_inv hL
    obtain ⟨n', hn', rfl, rfl, rfl⟩ := emb0_inv hL'
    have : n = n' := hb
    subst this; exact ⟨rfl, rfl⟩
  · intro id g L hL hf
    obtain ⟨n, hn, rfl, rfl, rfl⟩ := emb0_inv hL
    have : B.val (nb W.heap.size) ≤ B.val (nb n) := hf
    rw [nb_val, nb_val] at this; omega
  · intro id L blk hL h2 kc h3
    obtain ⟨n, hn, rfl, _, rfl⟩ := emb0_inv hL
    obtain ⟨b, b1, b2, b3, b4⟩ := hh n hn
    have hbe : hp.get (nb n) = some blk := h2
    rw [b1] at hbe
    cases hbe
    have : blk.min ≤ 1 := by
      revert b4
      split
      · rintro ⟨e, _⟩; omega
      · intro e; omega
    have h7 : 7 ≤ kdN kc := by cases kc <;> decide
    omega
  · intro id g L blk ob hL h2 hg h3 h5
    obtain ⟨n, hn, rfl, _, rfl⟩ := emb0_inv hL
    cases h5
/-- where it begins -/
structure Start (W : World) (h : H) : Prop where
  rel : HRel (emb0 W) h W W
  blk : ∀ n, n < W.heap.size → B.val (nb n) < B.val h.next ∧ B.val (nb n) < B.val h.floor ∧ ∃ b, h.heap.get (nb n) = some b ∧ BlkAt W n b
theorem Start.cell {W : World} {h : H} (s : Start W h) {b off : Nat} {x : Value} (hx : W.cell? ⟨b, off, none⟩ = some x) : b < W.heap.size ∧ off < csz W b ∧ (∃ blk, h.heap.get (nb b) = some blk ∧ blk.min ≤ 0) ∧ Ev.cell h (nb b) 0 off = some (absV W x) := by
  simp only [World.cell?] at hx
  split at hx
  · rename_i c el fz hb
    have hlt : b < W.heap.size := (Array.getElem?_eq_some_iff.1 hb).1
    obtain ⟨_, _, blk, b1, b2, b3, b4⟩ := s.blk b hlt
    rw [hb] at b4
    obtain ⟨c1, c2, c3, c4⟩ := b4
    have hcs : csz W b = c.size := by unfold csz; rw [hb]
    refine ⟨hlt, by rw [hcs]; exact (Array.getElem?_eq_some_iff.1 hx).1, ⟨blk, b1, by omega⟩, ?_⟩
    unfold Ev.cell cellB
    rw [b1]
    show (if blk.min ≤ 0 then blk.cells.getN off else none) = _
    rw [if_pos (by omega)]
    exact c4 off x hx
  · cases hx
end Go.Ev

set_option linter.all false
namespace Go.Ev
open Go
/-- v is a slice of the call's own, that only it appends to: its cells are xs ('size' an element) -/
def Buf (h : H) (el size : Nat) (v : V) (xs : List V) : Prop :=
  (v = .l0 ∧ xs = []) ∨ ∃ id g n blk, v = .l id g 0 n xs.length none ∧ 1 ≤ n ∧ xs.length = n * size ∧ B.val h.floor ≤ B.val id ∧ B.val id < B.val h.next ∧ h.heap.get id = some blk ∧ (blk.min ≤ g ∧ g ≤ blk.cur) ∧ blk.size = xs.length ∧ blk.el = el ∧ blk.fr = 0 ∧
    ∀ i y, xs[i]? = some y → blk.cells.getN i = some y
/-- the block that a slice lies in -/
def isOf (v : V) : B → Prop := fun id => ∃ g off n fin cap, v = .l id g off n fin cap
theorem Buf.nil (h : H) (el size : Nat) : Buf h el size .l0 [] := .inl ⟨rfl, rfl⟩
theorem Buf.stay {p : B → Prop} {h h' : H} {el size : Nat} {v : V} {xs : List V} (b : Buf h el size v xs) (s : Stay p h h') (hp : ∀ id, isOf v id → ¬ p id) : Buf h' el size v xs := by
  rcases b with ⟨rfl, rfl⟩ | ⟨id, g, n, blk, rfl, h1, h2, h3, h4, h5, h6⟩
  · exact .inl ⟨rfl, rfl⟩
  · exact .inr ⟨id, g, n, blk, rfl, h1, h2, by rw [s.floor]; exact h3, Nat.lt_of_lt_of_le h4 s.next, (s.get id h4 (hp id ⟨_, _, _, _, _, rfl⟩)).trans h5, h6⟩
theorem Buf.grow {h h' : H} {el size : Nat} {v : V} {xs : List V} (b : Buf h el size v xs) (s : Stay nowhere h h') : Buf h' el size v xs := b.stay s fun _ _ h => h
/-- it was made here, behind h0 -/
theorem Buf.own {h : H} {el size : Nat} {v : V} {xs : List V} (b : Buf h el size v xs) {id : B} (i : isOf v id) : B.val h.floor ≤ B.val id ∧ B.val id < B.val h.next := by
  rcases b with ⟨rfl, rfl⟩ | ⟨id', g, n, blk, rfl, h1, h2, h3, h4, _⟩
  · obtain ⟨_, _, _, _, _, e⟩ := i; cases e
  · obtain ⟨_, _, _, _, _, e⟩ := i; cases e; exact ⟨h3, h4⟩
/-- a block of the call's own, with the cells xs (and perhaps more behind them) -/
def Own (h : H) (id : B) (xs : List V) : Prop := ∃ blk, h.heap.get id = some blk ∧ blk.cur = 0 ∧ blk.min = 0 ∧ blk.fr = 0 ∧ B.val h.floor ≤ B.val id ∧ B.val id < B.val h.next ∧ ∀ i y, xs[i]? = some y → blk.cells.getN i = some y
theorem Own.stay {p : B → Prop} {h h' : H} {id : B} {xs : List V} (o : Own h id xs) (s : Stay p h h') (hp : ¬ p id) : Own h' id xs := by
  obtain ⟨blk, h1, h2, h3, h4, h5, h6, h7⟩ := o
  exact ⟨blk, (s.get id h6 hp).trans h1, h2, h3, h4, by rw [s.floor]; exact h5, Nat.lt_of_lt_of_le h6 s.next, h7⟩
theorem Own.row {h : H} {id : B} {xs : List V} (o : Own h id xs) : Row h id 0 0 xs := by
  obtain ⟨blk, h1, h2, h3, h4, h5, h6, h7⟩ := o
  refine ⟨fun _ => ⟨blk, h1, by omega⟩, fun i y hy => ?_⟩
  unfold Ev.cell cellB
  rw [h1]
  show (if blk.min ≤ 0 then blk.cells.getN (0 + i) else none) = _
  rw [if_pos (by omega), Nat.zero_add]
  exact h7 i y hy
/-- at one place written -/
theorem store_own {h : H} {id : B} {xs : List V} {j fin : Nat} {y : V} (o : Own h id xs) (hj : j < fin) (hfit : j < 2 ^ 37) (h1 : oneV y = true) : ∃ h', (∀ k, store h id 0 j fin [y] k = k h') ∧ Own h' id (xs.set j y) ∧ Stay (fun i => i = id) h h' := by
  obtain ⟨blk, a1, a2, a3, a4, a5, a6, a7⟩ := o
  obtain ⟨next, floor, heap⟩ := h
  obtain ⟨cur, min, sz, cells, bel, fr⟩ := blk
  simp only at a2 a3 a4 a7
  subst a2; subst a3; subst a4
  obtain ⟨tr, t1, t2, t3⟩ := setList_fine [y] j cells (by simp; omega)
  obtain ⟨hp, s1, s2, s3⟩ := setK_ok id (⟨0, 0, sz, tr, bel, 0⟩ : Blk) heap
  have e1 : B.geB floor id = true := by cases floor <;> first | rfl | (show Nat.ble _ _ = true; rw [Nat.ble_eq]; exact a5)
  have e2 : Nat.ble (Nat.add j 1) fin = true := by rw [Nat.ble_eq]; exact hj
  have e3 : allOne [y] = true := by show Bool.rec false true (oneV y) = true; rw [h1]
  have e4 : frOk 0 j = true := rfl
  have e5 : Nat.beq 0 0 = true := rfl
  have e6 : Nat.ble 0 0 = true := rfl
  have a1' : heap.get id = some ⟨0, 0, sz, cells, bel, 0⟩ := a1
  refine ⟨⟨next, floor, hp⟩, fun k => ?_, ⟨_, s2, rfl, rfl, rfl, a5, a6, fun i z hz => ?_⟩, ⟨rfl, Nat.le_refl _, fun i _ hi => s3 i hi⟩⟩
  · simp only [store, hK_mk, a1', optK_some, blkK_mk, List.length_singleton, e5, e6, e1, e2, e3, e4, ifK_true]
    rw [t1, s1]
  · show tr.getN i = some z
    rw [List.getElem?_set] at hz
    split at hz
    · rename_i hij
      subst hij
      split at hz
      · cases hz
        exact t2 0 y rfl
      · cases hz
    · rename_i hij
      rw [t3 i (by simp; omega)]
      exact a7 i z hz
theorem alloc_own (el : Nat) (cs : List V) (h : H) (hl : cs.length < 2 ^ 37) (hf : B.val h.floor ≤ B.val h.next) : ∃ h', (∀ k, alloc el cs h k = k h.next h') ∧ Stay nowhere h h' ∧ Own h' h.next cs ∧ B.val h'.next = B.val h.next + 1 := by
  obtain ⟨h', a1, a2, a3, blk, b1, b2, b3, b4, b5, b6, b7⟩ := alloc_new el cs h (by omega)
  exact ⟨h', a1, a2, ⟨blk, b1, b3, b2, b6, by rw [a2.floor]; exact hf, by omega, b7⟩, a3⟩
theorem unFloor_same (h : H) : unFloor h (reFloor h) = h := by cases h; rfl
theorem Stay.unfloor {p : B → Prop} {h h1 : H} (s : Stay p (reFloor h) h1) : Stay p h (unFloor h h1) := by
  obtain ⟨n, f, hp⟩ := h
  obtain ⟨n1, f1, hp1⟩ := h1
  exact ⟨rfl, s.next, s.get⟩
theorem ev_convR (cf : CallF) (t : F) (h : H) (k : V → H → Bool) (kd : IntKind) (x : O) : doConv kd x cf t h k = vIR (oV x t) (fun _ n => k (.i kd (kd.wrap n)) h) fun _ m r hi => ifK (Nat.ble hi (mxOf kd)) fun _ => k (.r kd m r hi) h := by simp only [doConv, oE_eq, wrapF_eq]
theorem ev_rem (cf : CallF) (t : F) (h : H) (k : V → H → Bool) (x y : O) : doRem x y cf t h k = vI (oV y t) fun kd' b => vIR (oV x t) (fun kd a => ifK (kdEq kd kd') fun _ => fRem kd a b fun v => k v h) fun kd m r _ => remR kd' b (fun v => k v h) kd m r := by simp only [doRem, oE_eq, oK_eq]
section
variable {P : Program} {S : Spec} {l : List CO} {t : F} {h : H} {K : F → H → Prop}
theorem Drs.pure {n : Nat} {r : Run} {v : V} (e : ∀ k, r (cfS P S) t (reFloor h) k = k v (reFloor h)) (k : Drs P S l (put n v t) h K) : Drs P S (.mk .none (.some (slOf n)) false (.mk r) :: l) t h K :=
  Drs.op e (by rw [unFloor_same]; exact k)
theorem store_eq {o x : O} {id : B} {j fin : Nat} {y : V} {h' : H} (e1 : oV o t = .p id 0 j fin) (e2 : cells (oV x t) = [y]) (hs : ∀ k : H → Bool, store h id 0 j fin [y] k = k h') (cf : CallF) (k : V → H → Bool) : doStore 1 o x cf t h k = k (.tu []) h' := by
  simp only [doStore, oE_eq, oK_eq, e1, vP_p, e2]
  have : Nat.beq [y].length 1 = true := rfl
  rw [this, ifK_true, hs]
theorem Ops.store {b : Bool} {o x : O} {id : B} {j fin : Nat} {y : V} {xs : List V} (e1 : oV o t = .p id 0 j fin) (e2 : cells (oV x t) = [y]) (ho : Own h id xs) (hj : j < fin) (hfit : j < 2 ^ 37) (h1 : oneV y = true)
    (k : ∀ h', Own h' id (xs.set j y) → Stay (fun i => i = id) h h' → Ops P S l t h' K) : Ops P S (.mk .none .none b (.mk (doStore 1 o x)) :: l) t h K := by
  obtain ⟨h', a1, a2, a3⟩ := store_own ho hj hfit h1
  exact Ops.op0 (fun k => store_eq e1 e2 a1 _ k) (k h' a2 a3)
theorem Drs.bar0 {r : Run} {v : V} {h1 : H} (e : ∀ k, r (cfS P S) t h k = k v h1) (k : Drs P S l t h1 K) : Drs P S (.mk .none .none true (.mk r) :: l) t h K := by
  obtain ⟨t', h', a1, a2⟩ := k
  refine ⟨t', h', fun k => ?_, a2⟩
  show r (cfS P S) t h (fun v h => execDr (cfS P S) l t h k) = _
  rw [e, a1]
theorem Drs.store {o x : O} {id : B} {j fin : Nat} {y : V} {xs : List V} (e1 : oV o t = .p id 0 j fin) (e2 : cells (oV x t) = [y]) (ho : Own h id xs) (hj : j < fin) (hfit : j < 2 ^ 37) (h1 : oneV y = true)
    (k : ∀ h', Own h' id (xs.set j y) → Stay (fun i => i = id) h h' → Drs P S l t h' K) : Drs P S (.mk .none .none true (.mk (doStore 1 o x)) :: l) t h K := by
  obtain ⟨h', a1, a2, a3⟩ := store_own ho hj hfit h1
  exact Drs.bar0 (fun k => store_eq e1 e2 a1 _ k) (k h' a2 a3)
end
theorem Ok.mid {P : Program} {nt : Nat} {a b : CC} {t : F} {h : H} {K : X → F → H → Prop} (Q : F → H → Prop) (k1 : Ok P nt a t h (Then Q K)) (k2 : ∀ t h, Q t h → Ok P nt b t h K) : Ok P nt (.seq a b) t h K :=
  Ok.seq (k1.mono fun x t h hq => by
    cases x with
    | normal => exact k2 t h hq
    | exit id => exact hq
    | ret => exact hq)
theorem Stay.fl {h h' : H} {p : B → Prop} (s : Stay p h h') (hf : B.val h.floor ≤ B.val h.next) : B.val h'.floor ≤ B.val h'.next := by rw [s.floor]; exact Nat.le_trans hf s.next
section
variable {P : Program} {S : Spec} {l : List CO} {t : F} {h : H} {K : F → H → Prop}
end
end Go.Ev

set_option linter.all false
namespace Go.Ev
open Go
section
variable {P : Program} {S : Spec} {l : List CO} {t : F} {h : H} {K : F → H → Prop}
end
theorem Stay.past' {p : B → Prop} {a b c : H} (x : Stay nowhere a b) (y : Stay p b c) (h : ∀ id, p id → B.val a.next ≤ B.val id) : Stay nowhere a c :=
  ⟨y.floor.trans x.floor, Nat.le_trans x.next y.next, fun id h1 _ => (y.get id (Nat.lt_of_lt_of_le h1 x.next) fun hp => absurd (h id hp) (Nat.not_le.2 h1)).trans (x.get id h1 fun h => h)⟩
/-- a slice of ints -/
def Il (h : H) (v : V) (xs : List Int) : Prop := Lst h v (xs.map (V.i .i64))
theorem Il.grow {h h' : H} {v : V} {xs : List Int} (a : Il h v xs) (s : Stay nowhere h h') : Il h' v xs := Lst.grow a s
theorem Il.len {h0 : H} {v : V} {xs : List Int} (a : Il h0 v xs) (k : Nat → Bool) : lenV v k = k xs.length := by rw [Lst.len a]; simp
theorem Il.idx {h0 : H} {v : V} {xs : List Int} {i : Nat} (a : Il h0 v xs) (hi : i < xs.length) (k : V → Bool) : idxV 1 v i k = k (.p (lid v) (lg v) (loff v + i) (lfin v)) := Lst.idx a (by simpa using hi) k
theorem Il.rd {h : H} {v : V} {xs : List Int} {i : Nat} (a : Il h v xs) (hi : i < xs.length) (k : V → Bool) : load1 h (lid v) (lg v) (loff v + i) (lfin v) k = k (.i .i64 (xs.getD i 0)) :=
  load_lst a (by simp [hi]) k
/-- .. of the call's own, behind 'lo' -/
structure Ib (h : H) (lo el : Nat) (v : V) (xs : List Int) : Prop where
  buf : Buf h el 1 v (xs.map (V.i .i64))
  own : ∀ i, isOf v i → lo ≤ B.val i
theorem Ib.nil (h : H) (lo el : Nat) : Ib h lo el .l0 [] := ⟨Buf.nil h el 1, fun i hi => by obtain ⟨_, _, _, _, _, e⟩ := hi; cases e⟩
theorem Ib.grow {h h' : H} {lo el : Nat} {v : V} {xs : List Int} (a : Ib h lo el v xs) (s : Stay nowhere h h') : Ib h' lo el v xs := ⟨a.buf.grow s, a.own⟩
end Go.Ev

set_option linter.all false
namespace Go.Ev
open Go
/-- a text, as a value -/
def sv (l : List UInt8) : V := .s l.length (pk l)
theorem sv_nil : V.s 0 0 = sv [] := rfl
theorem vS_sv (l : List UInt8) (k : Nat → Nat → Bool) : vS (sv l) k = k l.length (pk l) := rfl
theorem natK_nn {z : Int} (h : 0 ≤ z) (k : Nat → Bool) : natK z k = k z.toNat := by
  obtain ⟨n, rfl⟩ := Int.eq_ofNat_of_zero_le h
  rfl
/-- a byte, as a value -/
def bv (c : UInt8) : V := .i .u8 (c.toNat : Int)
theorem bv_ofNat (n : Nat) : V.i .u8 ((n % 256 : Nat) : Int) = bv (UInt8.ofNat n) := by
  unfold bv; simp
theorem one_3 (u v w : V) : one [u, v, w] = .tu [u, v, w] := rfl
theorem res_3 (n m o : Nat) (t : F) (h : H) (k : List V → Bool) : resK [Rs.tmp (slOf n), Rs.tmp (slOf m), Rs.tmp (slOf o)] t h k = k [get n t, get m t, get o t] := by
  show forceV (sGet (slOf n) t) (fun v => forceV (sGet (slOf m) t) fun u => forceV (sGet (slOf o) t) fun w => k [v, u, w]) = _
  rw [forceV_eq, forceV_eq, forceV_eq]; rfl
section
variable (cf : CallF) (t : F) (h : H) (k : V → H → Bool) (o x y : O)
noncomputable def catV (a b : V) (k : V → Bool) : Bool := vS a fun la na => vS b fun lb nb => ifK (Nat.ble (Nat.add la lb) 1048576) fun _ => k (.s (Nat.add la lb) (Nat.add (Nat.mul na (Nat.pow 256 lb)) nb))
theorem ev_concat : doConcat x y cf t h k = catV (oV x t) (oV y t) fun v => k v h := by simp only [doConcat, oE_eq, fN_eq]; rfl
theorem catV_sv {a b : List UInt8} (hl : a.length + b.length ≤ 1048576) (k : V → Bool) : catV (sv a) (sv b) k = k (sv (a ++ b)) := by
  have h1 : Nat.ble (Nat.add a.length b.length) 1048576 = true := by rw [Nat.ble_eq]; exact hl
  unfold catV
  rw [vS_sv, vS_sv, h1, ifK_true]
  unfold sv
  rw [List.length_append, pk_append]; rfl
noncomputable def sixV (v : V) (i : Nat) (k : V → Bool) : Bool := vS v fun l n => ifK (Nat.ble (Nat.succ i) l) fun _ => k (.i .u8 (.ofNat (Nat.mod (Nat.div n (Nat.pow 256 (Nat.sub (Nat.sub l 1) i))) 256)))
theorem ev_sindex : doSIndex x y cf t h k = vI (oV y t) fun _ n => natK n fun n => sixV (oV x t) n fun v => k v h := by
  have no : ∀ u : V, (vI u fun _ n => natK n fun _ => false) = false := by
    intro u
    cases u <;> first | rfl | (rename_i kd n; cases n <;> rfl)
  simp only [doSIndex, oE_eq]
  generalize oV x t = v
  generalize oV y t = u
  have hn : ∀ w : V, (∀ k, vS w k = false) → (vI u fun _ n => natK n fun n => sixV w n fun p => k p h) = false := by
    intro w hw
    have : (fun (_ : IntKind) (n : Int) => natK n fun n => sixV w n fun p => k p h) = fun _ n => natK n fun _ => false := by
      funext _ n; congr 1; funext n; exact hw _
    rw [this]; exact no u
  cases v with
  | s l n => simp only [vS_s, fN_eq]; rfl
  | _ => rw [hn _ fun _ => rfl]; rfl
theorem sixV_sv {l : List UInt8} {i : Nat} (hi : i < l.length) (k : V → Bool) : sixV (sv l) i k = k (.i .u8 ((l.getD i 0).toNat : Int)) := by
  have h1 : Nat.ble (Nat.succ i) l.length = true := by rw [Nat.ble_eq]; exact hi
  unfold sixV
  rw [vS_sv, h1, ifK_true]
  have e : l.getD i 0 = l[i] := by simp [List.getD, hi]
  have := pk_get l hi
  rw [e, this]
  rfl
noncomputable def ssV (v : V) (a b : Nat) (k : V → Bool) : Bool := vS v fun l n => ifK (Nat.ble a b) fun _ => ifK (Nat.ble b l) fun _ => k (.s (Nat.sub b a) (Nat.mod (Nat.div n (Nat.pow 256 (Nat.sub l b))) (Nat.pow 256 (Nat.sub b a))))
noncomputable def ssaV (v : V) (a : Nat) (k : V → Bool) : Bool := vS v fun l n => ifK (Nat.ble a l) fun _ => k (.s (Nat.sub l a) (Nat.mod (Nat.div n (Nat.pow 256 (Nat.sub l l))) (Nat.pow 256 (Nat.sub l a))))
theorem no1 (u : V) : (vI u fun _ n => natK n fun _ => false) = false := by
  cases u <;> first | rfl | (rename_i kd n; cases n <;> rfl)
theorem ev_ss2 (a b : O) : doSSlice x (some a) (some b) cf t h k = vI (oV a t) fun _ p => natK p fun p => vI (oV b t) fun _ q => natK q fun q => ssV (oV x t) p q fun v => k v h := by
  simp only [doSSlice, oE_eq]
  have hb : ∀ (o : O) (d : Nat) (k : Nat → Bool), boundK (some o) d t k = vI (oV o t) fun _ n => natK n k := fun o d k => by show oE o t _ = _; rw [oE_eq]
  simp only [hb, fN_eq]
  generalize oV x t = v
  have hn : ∀ w : V, (∀ k, vS w k = false) → (vI (oV a t) fun _ p => natK p fun p => vI (oV b t) fun _ q => natK q fun q => ssV w p q fun v => k v h) = false := by
    intro w hw
    have e2 : ∀ p q, ssV w p q (fun v => k v h) = false := fun p q => hw _
    simp only [e2, no1]
  cases v with
  | s l n => simp only [vS_s]; rfl
  | _ => rw [hn _ fun _ => rfl]; rfl
theorem ev_ss1 (b : O) : doSSlice x none (some b) cf t h k = vI (oV b t) fun _ q => natK q fun q => ssV (oV x t) 0 q fun v => k v h := by
  simp only [doSSlice, oE_eq]
  have hb : ∀ (o : O) (d : Nat) (k : Nat → Bool), boundK (some o) d t k = vI (oV o t) fun _ n => natK n k := fun o d k => by show oE o t _ = _; rw [oE_eq]
  have h0 : ∀ (d : Nat) (k : Nat → Bool), boundK none d t k = k d := fun _ _ => rfl
  simp only [hb, h0, fN_eq]
  generalize oV x t = v
  have hn : ∀ w : V, (∀ k, vS w k = false) → (vI (oV b t) fun _ q => natK q fun q => ssV w 0 q fun v => k v h) = false := by
    intro w hw
    have e2 : ∀ p q, ssV w p q (fun v => k v h) = false := fun p q => hw _
    simp only [e2, no1]
  cases v with
  | s l n => simp only [vS_s]; rfl
  | _ => rw [hn _ fun _ => rfl]; rfl
theorem ev_ssa (a : O) : doSSlice x (some a) none cf t h k = vI (oV a t) fun _ p => natK p fun p => ssaV (oV x t) p fun v => k v h := by
  simp only [doSSlice, oE_eq]
  have hb : ∀ (o : O) (d : Nat) (k : Nat → Bool), boundK (some o) d t k = vI (oV o t) fun _ n => natK n k := fun o d k => by show oE o t _ = _; rw [oE_eq]
  have h0 : ∀ (d : Nat) (k : Nat → Bool), boundK none d t k = k d := fun _ _ => rfl
  simp only [hb, h0, fN_eq]
  generalize oV x t = v
  have hn : ∀ w : V, (∀ k, vS w k = false) → (vI (oV a t) fun _ q => natK q fun q => ssaV w q fun v => k v h) = false := by
    intro w hw
    have e2 : ∀ q, ssaV w q (fun v => k v h) = false := fun q => hw _
    simp only [e2, no1]
  cases v with
  | s l n =>
    simp only [vS_s]
    have : ∀ p, ssaV (.s l n) p (fun v => k v h) = ifK (Nat.ble p l) fun _ => k (.s (Nat.sub l p) (Nat.mod (Nat.div n (Nat.pow 256 (Nat.sub l l))) (Nat.pow 256 (Nat.sub l p)))) h := fun _ => rfl
    simp only [this]
    have e : ∀ p, (ifK (Nat.ble p l) fun _ => ifK (Nat.ble l l) fun _ => k (.s (Nat.sub l p) (Nat.mod (Nat.div n (Nat.pow 256 (Nat.sub l l))) (Nat.pow 256 (Nat.sub l p)))) h) = ifK (Nat.ble p l) fun _ => k (.s (Nat.sub l p) (Nat.mod (Nat.div n (Nat.pow 256 (Nat.sub l l))) (Nat.pow 256 (Nat.sub l p)))) h := fun p => by
      have : Nat.ble l l = true := by rw [Nat.ble_eq]; exact Nat.le_refl _
      rw [this]; rfl
    simp only [e]
  | _ => rw [hn _ fun _ => rfl]; rfl
theorem ssV_sv {l : List UInt8} {a b : Nat} (h1 : a ≤ b) (h2 : b ≤ l.length) (k : V → Bool) : ssV (sv l) a b k = k (sv ((l.take b).drop a)) := by
  have e1 : Nat.ble a b = true := by rw [Nat.ble_eq]; exact h1
  have e2 : Nat.ble b l.length = true := by rw [Nat.ble_eq]; exact h2
  unfold ssV
  rw [vS_sv, e1, ifK_true, e2, ifK_true]
  unfold sv
  rw [pk_part l h1 h2, List.length_drop, List.length_take, Nat.min_eq_left h2]; rfl
theorem ssaV_sv {l : List UInt8} {a : Nat} (h1 : a ≤ l.length) (k : V → Bool) : ssaV (sv l) a k = k (sv (l.drop a)) := by
  have := ssV_sv h1 (Nat.le_refl _) k
  rw [List.take_length] at this
  rw [← this]
  have e1 : Nat.ble a l.length = true := by rw [Nat.ble_eq]; exact h1
  have e2 : Nat.ble l.length l.length = true := by rw [Nat.ble_eq]; exact Nat.le_refl _
  unfold ssV ssaV
  rw [vS_sv, vS_sv, e1, ifK_true, ifK_true, e2, ifK_true]
noncomputable def scV (f : Nat → Nat → Nat → Nat → Bool) (a b : V) (k : V → Bool) : Bool := vS a fun la na => vS b fun lb nb => k (.b (f la na lb nb))
theorem ev_scmp (f : Nat → Nat → Nat → Nat → Bool) : doSCmp f x y cf t h k = scV f (oV x t) (oV y t) fun v => k v h := by simp only [doSCmp, oE_eq, fB_eq]; rfl
theorem eqS_sv (a b : List UInt8) : eqS a.length (pk a) b.length (pk b) = decide (a = b) := by
  have e : ∀ {x y : Bool}, (x = true ↔ y = true) → x = y := by intro x y h; cases x <;> cases y <;> simp_all
  apply e
  rw [decide_eq_true_iff]
  have := pk_eq a b
  unfold eqS
  rw [← this]
  exact beq_iff_eq
noncomputable def cmV (a b : V) (k : V → Bool) : Bool := vS a fun la na => vS b fun lb nb => k (.i .i64 (cmpI (eqS la na lb nb) (ltS la na lb nb)))
theorem ev_cmpS : doCmpS x y cf t h k = cmV (oV x t) (oV y t) fun v => k v h := by simp only [doCmpS, oE_eq, fC_eq]; rfl
theorem cmV_sv (a b : List UInt8) (k : V → Bool) : cmV (sv a) (sv b) k = k (.i .i64 (cmpI (decide (a = b)) (Op.bytesLess a b))) := by
  unfold cmV; rw [vS_sv, vS_sv, eqS_sv, bytesLess_pk]
theorem scV_eq (a b : List UInt8) (k : V → Bool) : scV eqS (sv a) (sv b) k = k (.b (decide (a = b))) := by
  unfold scV; rw [vS_sv, vS_sv, eqS_sv]
theorem scV_ne (a b : List UInt8) (k : V → Bool) : scV (fun a b c d => !eqS a b c d) (sv a) (sv b) k = k (.b (!decide (a = b))) := by
  unfold scV; rw [vS_sv, vS_sv]; simp only [eqS_sv]
theorem scV_lt (a b : List UInt8) (k : V → Bool) : scV ltS (sv a) (sv b) k = k (.b (Op.bytesLess a b)) := by
  unfold scV; rw [vS_sv, vS_sv, bytesLess_pk]
theorem ev_shift (f : IntKind → Int → Nat → (V → Bool) → Bool) : doShift f x y cf t h k = vI (oV x t) fun kd a => vI (oV y t) fun _ b => natK b fun n => f kd a (min n kd.bits) fun v => k v h := by simp only [doShift, oE_eq]
theorem f_shl (kd : IntKind) (a : Int) (n : Nat) (k : V → Bool) : shlF kd a n k = k (.i kd (kd.wrap (a * ((2 ^ n : Nat) : Int)))) := wrapF_eq _ _ _
theorem ev_idxArr (len size : Nat) : doIndexAddrArr len size o x cf t h k = vP (oV o t) fun id g off fin => vI (oV x t) fun _ n => natK n fun n => ifK (Nat.ble (Nat.succ n) len) fun _ => k (.p id g (off + n * size) fin) h := by
  simp only [doIndexAddrArr, oE_eq, fN_eq]; rfl
theorem arrIx {i n : Nat} (h : i < n) (k : Unit → Bool) : ifK (Nat.ble (Nat.succ i) n) k = k () := by
  have : Nat.ble (Nat.succ i) n = true := by rw [Nat.ble_eq]; exact h
  rw [this]; rfl
theorem ev_sliceArr (n size : Nat) (a : O) : doSliceArr n size x (some a) none cf t h k = vP (oV x t) fun id g off fin => vI (oV a t) fun _ p => natK p fun p => ifK (Nat.ble p n) fun _ => sliceC size id g off n fin n p n fun v => k v h := by
  simp only [doSliceArr, oE_eq]
  have hb : ∀ (o : O) (d : Nat) (k : Nat → Bool), boundK (some o) d t k = vI (oV o t) fun _ n => natK n k := fun o d k => by show oE o t _ = _; rw [oE_eq]
  have h0 : ∀ (d : Nat) (k : Nat → Bool), boundK none d t k = k d := fun _ _ => rfl
  simp only [hb, h0]
theorem sliceC_mid {size : Nat} {id : B} {g off len fin c a b : Nat} (hcM : c < 18446744073709551616) (h1 : b ≤ c) (h2 : a < c) (k : V → Bool) : sliceC size id g off len fin c a b k = k (.l id g (off + a * size) (b - a) fin (some (c - a))) := by
  have e1 : Nat.ble b c = true := by rw [Nat.ble_eq]; exact h1
  have e2 : Nat.beq a c = false := by
    cases hx : Nat.beq a c with
    | false => rfl
    | true => have := Nat.eq_of_beq_eq_true hx; omega
  have e0 : Nat.ble (Nat.succ c) 18446744073709551616 = true := by rw [Nat.ble_eq]; exact hcM
  unfold sliceC
  rw [e0, ifK_true, e1, ifK_true, e2]
  show fN (Nat.sub b a) _ = _
  rw [fN_eq, fN_eq, fN_eq]; rfl
theorem ifBle {a b : Nat} (h : a ≤ b) (k : Unit → Bool) : ifK (Nat.ble a b) k = k () := by
  have : Nat.ble a b = true := by rw [Nat.ble_eq]; exact h
  rw [this]; rfl
noncomputable def b2sV (h : H) (v : V) (k : V → Bool) : Bool := vL v (fun _ => k (.s 0 0)) fun id g off len fin _ => loadZ len len h id g off fin fun vs => packK vs 0 fun n => k (.s len n)
theorem ev_b2s : doB2S x cf t h k = b2sV h (oV x t) fun v => k v h := by simp only [doB2S, oE_eq]; rfl
theorem pack_bv : ∀ (l : List UInt8) (acc : Nat) (k : Nat → Bool), packK (l.map bv) acc k = k (acc * 256 ^ l.length + pk l)
  | [], acc, k => by show fN acc k = _; rw [fN_eq]; simp [pk]
  | c :: l, acc, k => by
    show byteK (bv c) (fun c => fN (Nat.add (Nat.mul acc 256) c) fun acc => packK (l.map bv) acc k) = _
    have hb : ∀ k', byteK (bv c) k' = k' c.toNat := fun k' => by
      have h2 : Nat.ble c.toNat 255 = true := by rw [Nat.ble_eq]; have := c.toNat_lt; omega
      unfold byteK bv
      rw [vI_i, kdEq_self, ifK_true]
      show natK (Int.ofNat c.toNat) _ = _
      rw [natK_ofNat, h2, ifK_true]
    rw [hb, fN_eq, pack_bv l]
    congr 1
    show (acc * 256 + c.toNat) * 256 ^ l.length + pk l = acc * 256 ^ (l.length + 1) + (c.toNat * 256 ^ l.length + pk l)
    rw [Nat.add_mul, Nat.pow_succ, Nat.mul_assoc, Nat.mul_comm 256, Nat.add_assoc]
theorem b2s_lst {h : H} {v : V} {l : List UInt8} (a : Lst h v (l.map bv)) (hne : l ≠ []) (k : V → Bool) : b2sV h v k = k (sv l) := by
  rcases a with ⟨rfl, e⟩ | ⟨id, g, off, fin, cap, rfl, h2, h3, h4⟩
  · simp at e; exact absurd e hne
  · show loadZ (l.map bv).length (l.map bv).length h id g off fin (fun vs => packK vs 0 fun n => k (.s (l.map bv).length n)) = _
    rw [loadZ_pos (by rw [List.length_map]; exact List.length_pos_iff.2 hne), loadN_row h4 rfl (by simpa using hne) h2, pack_bv]
    unfold sv
    simp
end
section
variable {P : Program} {S : Spec} {l : List CO} {t : F} {h : H} {K : F → H → Prop}
end
end Go.Ev

set_option linter.all false
namespace Go.Ev
open Go
/-- what one operation makes of a state -/
def RunRel (P : Program) (r : CR) (t : F) (h : H) (v : V) (h' : H) : Prop := ∃ cf, CfOk P cf ∧ ∀ k, runK r cf t h k = k v h'
def OpRel (P : Program) (o : CO) (t : F) (h : H) (t1 : F) (h1 : H) : Prop := match o with
  | .mk g d _ r => ∃ b, (∀ k, guardK g t k = k b) ∧ ((b = true ∧ ∃ v, RunRel P r t h v h1 ∧ ∀ k, putD d v t k = k t1) ∨ (b = false ∧ h1 = h ∧ ∀ k, putD d (.tu []) t k = k t1))
def OpsRel (P : Program) : List CO → F → H → F → H → Prop
  | [], t, h, t', h' => t' = t ∧ h' = h
  | o :: l, t, h, t', h' => ∃ t1 h1, OpRel P o t h t1 h1 ∧ OpsRel P l t1 h1 t' h'
def DrRel (P : Program) (o : CO) (t : F) (h : H) (t1 : F) (h1 : H) : Prop := match o with
  | .mk g d true r => OpRel P (.mk g d true r) t h t1 h1
  | .mk g d false r => ∃ b, (∀ k, guardK g t k = k b) ∧ ((b = true ∧ ∃ v h2, RunRel P r t (reFloor h) v h2 ∧ h1 = unFloor h h2 ∧ ∀ k, putD d v t k = k t1) ∨ (b = false ∧ h1 = h ∧ ∀ k, putD d (.tu []) t k = k t1))
def DrsRel (P : Program) : List CO → F → H → F → H → Prop
  | [], t, h, t', h' => t' = t ∧ h' = h
  | o :: l, t, h, t', h' => ∃ t1 h1, DrRel P o t h t1 h1 ∧ DrsRel P l t1 h1 t' h'
theorem cfSome (P : Program) : CfOk P (cfS P fun _ _ _ _ _ => True) := cfS_ok P _
theorem opRel_run {P : Program} {o : CO} {t : F} {h : H} {t1 : F} {h1 : H} (a : OpRel P o t h t1 h1) : ∃ cf, CfOk P cf ∧ ∀ (ih : F → H → (F → H → Bool) → Bool) k, opK o cf ih t h k = ih t1 h1 k := by
  obtain ⟨g, d, bar, r⟩ := o
  obtain ⟨b, g1, g2⟩ := a
  rcases g2 with ⟨rfl, v, ⟨cf, c1, c2⟩, p⟩ | ⟨rfl, rfl, p⟩
  · refine ⟨cf, c1, fun ih k => ?_⟩
    show guardK g t (fun b => opGo b r d cf ih t h k) = _
    rw [g1]
    show runK r cf t h (fun v h => putD d v t fun t => ih t h k) = _
    rw [c2, p]
  · refine ⟨_, cfSome P, fun ih k => ?_⟩
    show guardK g t (fun b => opGo b r d _ ih t h1 k) = _
    rw [g1]
    show putD d (.tu []) t (fun t => ih t h1 k) = _
    rw [p]
theorem drRel_run {P : Program} {o : CO} {t : F} {h : H} {t1 : F} {h1 : H} (a : DrRel P o t h t1 h1) : ∃ cf, CfOk P cf ∧ ∀ (ih : F → H → (F → H → Bool) → Bool) k, drK o cf ih t h k = ih t1 h1 k := by
  obtain ⟨g, d, bar, r⟩ := o
  cases bar with
  | true =>
    obtain ⟨b, g1, g2⟩ := a
    rcases g2 with ⟨rfl, v, ⟨cf, c1, c2⟩, p⟩ | ⟨rfl, rfl, p⟩
    · refine ⟨cf, c1, fun ih k => ?_⟩
      show guardK g t (fun b => drGo b true r d cf ih t h k) = _
      rw [g1]
      show runK r cf t h (fun v h => putD d v t fun t => ih t h k) = _
      rw [c2, p]
    · refine ⟨_, cfSome P, fun ih k => ?_⟩
      show guardK g t (fun b => drGo b true r d _ ih t h1 k) = _
      rw [g1]
      show putD d (.tu []) t (fun t => ih t h1 k) = _
      rw [p]
  | false =>
    obtain ⟨b, g1, g2⟩ := a
    rcases g2 with ⟨rfl, v, h2, ⟨cf, c1, c2⟩, rfl, p⟩ | ⟨rfl, rfl, p⟩
    · refine ⟨cf, c1, fun ih k => ?_⟩
      show guardK g t (fun b => drGo b false r d cf ih t h k) = _
      rw [g1]
      show runK r cf t (reFloor h) (fun v h2 => putD d v t fun t => ih t (unFloor h h2) k) = _
      rw [c2, p]
    · refine ⟨_, cfSome P, fun ih k => ?_⟩
      show guardK g t (fun b => drGo b false r d _ ih t h1 k) = _
      rw [g1]
      show putD d (.tu []) t (fun t => ih t h1 k) = _
      rw [p]
theorem same_of {t1 t2 : F} {h1 h2 : H} (e : ∀ k : F → H → Bool, k t1 h1 = k t2 h2) : t2 = t1 ∧ h2 = h1 := by
  have := e fun t h => @decide (t = t1 ∧ h = h1) (Classical.propDecidable _)
  simp at this
  exact this
theorem opsRel_ok {P : Program} {nt : Nat} {ops : Array Oper} (bars : Nat → Bool) : ∀ (l : List Oper) (n : Nat), ops.toList.drop n = l → ∀ (t : F) (h : H) (t' : F) (h' : H),
    OpsRel P (compOpsWith bars P nt ops.toList (compOp P) n l) t h t' h' → KeepF h h' ∧ B.val h.next ≤ B.val h'.next ∧
      ∀ ρ a w w0 (Q : Exit → Act → World → Prop), ARel ρ nt t a → HRel ρ h w w0 → (∀ ρ' a' w', Ext h.floor ρ ρ' → ARel ρ' nt t' a' → HRel ρ' h' w' w0 → Q .normal a' w') →
        wpOps P ops Q (List.range' n l.length) a w := by
  intro l
  induction l with
  | nil =>
    intro n hl t h t' h' hk
    obtain ⟨rfl, rfl⟩ := hk
    exact ⟨KeepF.refl _, Nat.le_refl _, fun ρ a w w0 Q A R hq => hq ρ a w (Ext.refl _ ρ) A R⟩
  | cons o l ih =>
    intro n hl t h t' h' hk
    obtain ⟨t1, h1, hk1, hk2⟩ := hk
    obtain ⟨cf, hcf, e⟩ := opRel_run hk1
    obtain ⟨t1', h1', a1, a2, a3, a4⟩ := op_ok hcf (ops := ops) (ih := fun t h k => k t h) (k := fun _ _ => true) (e _ _)
    obtain ⟨rfl, rfl⟩ := same_of (fun k => (e (fun t h k => k t h) k).symm.trans (a1 k))
    have hl' : ops.toList.drop (n + 1) = l := by rw [← List.drop_drop, hl]; rfl
    obtain ⟨b2, b3, b4⟩ := ih (n + 1) hl' _ _ _ _ hk2
    refine ⟨KeepF.trans a2 a3 b2, Nat.le_trans a3 b3, fun ρ a w w0 Q A R hq => ?_⟩
    have hn : ops[n]? = some o := by
      have : ops.toList[n]? = some o := by
        have := congrArg (fun l => l[0]?) hl
        simpa using this
      simpa using this
    rw [List.length_cons, List.range'_succ, wpOps_cons]
    unfold wpOp
    simp only [hn]
    have := a4 ρ a w w0 (wpOps P ops Q (List.range' (n + 1) l.length)) Q A R fun ρ' a' w' l1 A' R' => b4 ρ' a' w' w0 Q A' R' fun ρ'' a'' w'' l2 A'' R'' => hq ρ'' a'' w'' (Ext.trans l1 (by rw [← a2.1]; exact l2)) A'' R''
    split
    · rename_i hw; simp only [hw, if_true] at this; exact .inl this
    · rename_i hw; simp only [hw] at this; exact this
theorem drs_trace {P : Program} {nt : Nat} {ops : Array Oper} (bars : Nat → Bool) : ∀ (l : List Oper) (n : Nat), ops.toList.drop n = l → ∀ (t : F) (h : H) (t' : F) (h' : H),
    DrsRel P (compOpsWith bars P nt ops.toList (compOp P) n l) t h t' h' →
    ∃ (Ts : Nat → F) (Hs : Nat → H), Ts n = t ∧ Hs n = h ∧ (Ts (n + l.length) = t' ∧ Hs (n + l.length) = h') ∧
      ∀ (i : Nat) o, n ≤ i → ops[i]? = some o → StepOk P nt ops i o (bars i) (Ts i) (Ts (i + 1)) (Hs i) (Hs (i + 1)) := by
  intro l
  induction l with
  | nil =>
    intro n hl t h t' h' hk
    obtain ⟨rfl, rfl⟩ := hk
    refine ⟨fun _ => t', fun _ => h', rfl, rfl, ⟨rfl, rfl⟩, fun i o hni hi => ?_⟩
    have : ops.toList[i]? = none := by
      rw [List.getElem?_eq_none]
      have := congrArg List.length hl
      simp at this
      simp; omega
    rw [show ops[i]? = ops.toList[i]? by simp, this] at hi
    cases hi
  | cons o l ih =>
    intro n hl t h t' h' hk
    have hn : ops[n]? = some o := by
      have : ops.toList[n]? = some o := by
        have := congrArg (fun l => l[0]?) hl
        simpa using this
      simpa using this
    obtain ⟨t1, h1, hk1, hk2⟩ := hk
    obtain ⟨cf, hcf, e⟩ := drRel_run hk1
    obtain ⟨t1', h1', a1, a2⟩ := dr_step hcf hn (ih := fun t h k => k t h) (k := fun _ _ => true) (e _ _)
    obtain ⟨rfl, rfl⟩ := same_of (fun k => (e (fun t h k => k t h) k).symm.trans (a1 k))
    have hl' : ops.toList.drop (n + 1) = l := by rw [← List.drop_drop, hl]; rfl
    obtain ⟨Ts, Hs, b1, b2, b3, b4⟩ := ih (n + 1) hl' _ _ _ _ hk2
    refine ⟨fun i => if i = n then t else Ts i, fun i => if i = n then h else Hs i, by simp, by simp, ?_, fun i oi hni hi => ?_⟩
    · have e1 : n + (o :: l).length = n + 1 + l.length := by simp; omega
      rw [e1]
      simp only [show ¬ n + 1 + l.length = n by omega, if_false]
      exact b3
    · by_cases hin : i = n
      · subst hin
        rw [hn] at hi
        cases hi
        simp only [if_true, show ¬ i + 1 = i by omega, if_false, b1, b2]
        exact a2
      · simp only [hin, if_false, show ¬ i + 1 = n by omega]
        exact b4 i oi (by omega) hi
theorem drsRel_ok {P : Program} (hm : P.follows .mixedOrders = true) {nt : Nat} {ops : Array Oper} (hd : drawsOk ops.toList = true) {t : F} {h : H} {t' : F} {h' : H}
    (hk : DrsRel P (compOpsWith (barAt P ops.toList (befs ops.toList [])) P nt ops.toList (compOp P) 0 ops.toList) t h t' h') :
    KeepF h h' ∧ B.val h.next ≤ B.val h'.next ∧
      ∀ ρ a w w0 (id : Nat) (Q : Exit → Act → World → Prop), ARel ρ nt t a → HRel ρ h w w0 → (∀ ρ' a' w', Ext h.floor ρ ρ' → ARel ρ' nt t' a' → HRel ρ' h' w' w0 → Q .normal a' w') → (Code.region id ops true).wp P Q a w := by
  obtain ⟨Ts, Hs, b1, b2, b3, b4⟩ := drs_trace _ ops.toList 0 (by simp) t h t' h' hk
  have hst : ∀ (i : Nat) o, ops[i]? = some o → StepOk P nt ops i o (barAt P ops.toList (befs ops.toList []) i) (Ts i) (Ts (i + 1)) (Hs i) (Hs (i + 1)) := fun i o hi => b4 i o (Nat.zero_le _) hi
  have hlen : 0 + ops.toList.length = ops.size := by simp
  rw [hlen] at b3
  obtain ⟨c1, c2⟩ := b3
  refine ⟨by rw [← b2, ← c2]; exact keep_all hd hst (Nat.le_refl _), by rw [← b2, ← c2]; exact nx_mono hst (Nat.zero_le _) (Nat.le_refl _), fun ρ a w w0 id Q A R hQ => ?_⟩
  refine wp_region_any hm ?_
  have hR1 : HRel ρ h { w with drawn := w.drawn + 1 } w0 := R.dr _
  obtain ⟨M, m1, m2, m3, m4⟩ := next_bar (P := P) (nt := nt) (Ts := Ts) (Hs := Hs) hd hst 0 ops.size (by omega)
  have hno : ∀ j, ¬ InL (Array.replicate ops.size false) j := by
    intro j; unfold InL
    by_cases hj : j < ops.size <;> simp [hj]
  refine any_ok hd hst (ρ0 := ρ) (w0 := w0) (fun ρ' a' w' h1 h2 h3 => hQ ρ' a' w' (by rw [← b2]; exact h1) (by rw [← c1]; exact h2) (by rw [← c2]; exact h3)) ops.size _ a _ ρ 0 M (by simp) (by unfold left; exact Nat.le_trans (List.length_filter_le _ _) (by simp)) (fun j o hj hin => absurd hin (hno j)) ?_
  refine ⟨A.size, A.defers, Ext.refl _ _, fun q h5 => ⟨0, Nat.zero_le _, .inl rfl, fun j o hj hdj => ⟨fun h => by omega, fun h => absurd h (hno j)⟩, ?_⟩, Nat.zero_le _, m2, fun j o hj h1 h2 => by omega, fun j o hj h1 h2 => hno j, m3, m4,
    fun i g L hL => ?_, fun i g L hL j o hj hnj hbd => ?_, fun m h1 h2 => ?_⟩
  · rw [b1, b2]
    exact VRel.up (fun i g L hL => Emb.below_of hL (R.ids _ _ _ hL)) _ _ (A.slot q h5)
  · have := R.ids _ _ _ hL
    rw [← b2] at this
    exact Nat.lt_of_lt_of_le this (nx_mono hst (Nat.zero_le _) m2)
  · have := R.ids _ _ _ hL
    rw [← b2] at this
    have hjN : j < ops.size := (Array.getElem?_eq_some_iff.1 hj).1
    have := nx_mono hst (m := 0) (n := j) (Nat.zero_le _) (by omega)
    omega
  · have hmN : m ≤ ops.size := by omega
    rw [← b2] at hR1
    have hR2 : HRel ρ (Hs m) { w with drawn := w.drawn + 1 } w0 := hR1.later (fun i g L hL => seg_keep hst m2 m3 (Nat.le_refl _) h1 h2 (hR1.ids _ _ _ hL)) (nx_mono hst h1 hmN) (fl_same hst hmN)
    exact hR2.congr fun i g => by
      cases hL : ρ i g with
      | none => unfold Emb.below; rw [hL]; split <;> rfl
      | some L => exact Emb.below_of hL (hR2.ids _ _ _ hL)
def WO (P : Program) (l : List CO) (t : F) (h : H) (K : F → H → Prop) : Prop := ∃ t' h', OpsRel P l t h t' h' ∧ K t' h'
def DO (P : Program) (l : List CO) (t : F) (h : H) (K : F → H → Prop) : Prop := ∃ t' h', DrsRel P l t h t' h' ∧ K t' h'
section
variable {P : Program} {nt : Nat} {t : F} {h : H} {K : X → F → H → Prop}
theorem Ok.rg {l : List CO} (a : WO P l t h (K .normal)) : Ok P nt (.region l) t h K := by
  obtain ⟨t', h', e, k⟩ := a
  refine ⟨.normal, t', h', by_scopes _ fun c e' hs => ?_, k⟩
  cases c with
  | region id os draw =>
    have e1 : compRegion P nt os.toList draw = .region l := e'
    obtain ⟨rfl, rfl⟩ := reg_is e1
    obtain ⟨a2, a3, a4⟩ := opsRel_ok (fun _ => true) os.toList 0 (by simp) t h t' h' e
    refine ⟨a2, a3, fun ρ a w w0 Q A R hQ => wp_region ?_⟩
    have := a4 ρ a w w0 Q A R hQ
    rwa [show List.range' 0 os.toList.length = List.range os.size by rw [List.range_eq_range']; simp] at this
  | scope d => exact absurd rfl (hs d)
  | _ => cases e'
theorem Ok.dw (hm : P.follows .mixedOrders = true) {l : List CO} {ch : Option (List Nat × List (Nat × List Nat))} (a : DO P l t h (K .normal)) : Ok P nt (.draws l ch) t h K := by
  obtain ⟨t', h', e, k⟩ := a
  refine ⟨.normal, t', h', by_scopes _ fun c e' hs => ?_, k⟩
  cases c with
  | region id os draw =>
    have e1 : compRegion P nt os.toList draw = .draws l ch := e'
    obtain ⟨rfl, hd, e1⟩ := reg_dr e1
    cases e1
    obtain ⟨a2, a3, a4⟩ := drsRel_ok hm hd e
    exact ⟨a2, a3, fun ρ a w w0 Q A R hQ => a4 ρ a w w0 id Q A R hQ⟩
  | scope d => exact absurd rfl (hs d)
  | _ => cases e'
end
end Go.Ev

set_option linter.all false
namespace Go.Ev
open Go
/-- operations, shortly -/
noncomputable def wB (n : Nat) (r : Run) : CO := .mk .none (.some (slOf n)) true (.mk r)
noncomputable def uB (n : Nat) (r : Run) : CO := .mk .none (.some (slOf n)) false (.mk r)
noncomputable def wG (g : Nat) (w : Bool) (n : Nat) (r : Run) : CO := .mk (.some (slOf g) w) (.some (slOf n)) true (.mk r)
noncomputable def uG (g : Nat) (w : Bool) (n : Nat) (r : Run) : CO := .mk (.some (slOf g) w) (.some (slOf n)) false (.mk r)
noncomputable def oN (n : Nat) : O := .c (.i .i64 (.ofNat n))
theorem wB_eq (n : Nat) (r : Run) : wB n r = .mk .none (.some (slOf n)) true (.mk r) := rfl
theorem uB_eq (n : Nat) (r : Run) : uB n r = .mk .none (.some (slOf n)) false (.mk r) := rfl
theorem wG_eq (g : Nat) (w : Bool) (n : Nat) (r : Run) : wG g w n r = .mk (.some (slOf g) w) (.some (slOf n)) true (.mk r) := rfl
theorem uG_eq (g : Nat) (w : Bool) (n : Nat) (r : Run) : uG g w n r = .mk (.some (slOf g) w) (.some (slOf n)) false (.mk r) := rfl
theorem oN_eq (n : Nat) : oN n = .c (.i .i64 (.ofNat n)) := rfl
/-- what stands behind an operation -/
inductive Nx where
  | w (n : Nat) (l : List CO) (t : F) (K : F → H → Prop)
  | w0 (l : List CO) (t : F) (K : F → H → Prop)
  | d (n : Nat) (l : List CO) (t : F) (K : F → H → Prop)
  | d0 (l : List CO) (t : F) (K : F → H → Prop)
  | u (n : Nat) (l : List CO) (t : F) (h : H) (K : F → H → Prop)
  | u0 (l : List CO) (t : F) (h : H) (K : F → H → Prop)
def Nx.go (P : Program) : Nx → V → H → Prop
  | .w n l t K, v, h => WO P l (put n v t) h K
  | .w0 l t K, _, h => WO P l t h K
  | .d n l t K, v, h => DO P l (put n v t) h K
  | .d0 l t K, _, h => DO P l t h K
  | .u n l t h0 K, v, h => DO P l (put n v t) (unFloor h0 h) K
  | .u0 l t h0 K, _, h => DO P l t (unFloor h0 h) K
/-- the operation r, then N -/
def OR (P : Program) (r : Run) (t : F) (h : H) (N : Nx) : Prop := ∃ v h', RunRel P (.mk r) t h v h' ∧ N.go P v h'
/-- a guard, then r and N, or N alone -/
def GD (P : Program) (q : V) (w : Bool) (r : Run) (t : F) (h : H) (N : Nx) : Prop := ∃ b, (∀ k, vG q w k = k b) ∧ ((b = true ∧ OR P r t h N) ∨ (b = false ∧ N.go P (.tu []) h))
theorem b_of {b c : Bool} (e : ∀ k : Bool → Bool, k b = k c) : c = b := (e id).symm
theorem v_of {v u : V} (e : ∀ k : V → Bool, k v = k u) : u = v := by
  have := e fun x => @decide (x = v) (Classical.propDecidable _)
  simp at this
  exact this
theorem f_of {v u : F} (e : ∀ k : F → Bool, k v = k u) : u = v := by
  have := e fun x => @decide (x = v) (Classical.propDecidable _)
  simp at this
  exact this
theorem l_of {v u : List V} (e : ∀ k : List V → Bool, k v = k u) : u = v := by
  have := e fun x => @decide (x = v) (Classical.propDecidable _)
  simp at this
  exact this
theorem vh_of {v u : V} {h g : H} (e : ∀ k : V → H → Bool, k v h = k u g) : u = v ∧ g = h := by
  have := e fun x y => @decide (x = v ∧ y = h) (Classical.propDecidable _)
  simp at this
  exact ⟨this.1, this.2⟩
section
variable {P : Program} {l : List CO} {t : F} {h : H} {K : F → H → Prop} {r : Run} {n g : Nat} {w b : Bool}
theorem wo_nil : WO P [] t h K = K t h := propext ⟨fun ⟨_, _, ⟨e1, e2⟩, k⟩ => by subst e1; subst e2; exact k, fun k => ⟨t, h, ⟨rfl, rfl⟩, k⟩⟩
theorem do_nil : DO P [] t h K = K t h := propext ⟨fun ⟨_, _, ⟨e1, e2⟩, k⟩ => by subst e1; subst e2; exact k, fun k => ⟨t, h, ⟨rfl, rfl⟩, k⟩⟩
theorem putS {v : V} (k : F → Bool) : putD (.some (slOf n)) v t k = k (put n v t) := sPut_put n v t k
theorem wo_c : WO P (.mk .none (.some (slOf n)) b (.mk r) :: l) t h K = OR P r t h (.w n l t K) := by
  apply propext; constructor
  · rintro ⟨t', h', ⟨t1, h1, ⟨q, g1, g2⟩, e⟩, k⟩
    have hq := b_of (b := true) (c := q) fun k => g1 k
    subst hq
    rcases g2 with ⟨_, v, rr, p⟩ | ⟨e', _⟩
    · have := f_of fun k => (putS k).symm.trans (p k)
      subst this
      exact ⟨v, h1, rr, t', h', e, k⟩
    · cases e'
  · rintro ⟨v, h1, rr, t', h', e, k⟩
    exact ⟨t', h', ⟨_, h1, ⟨true, fun _ => rfl, .inl ⟨rfl, v, rr, fun k => putS k⟩⟩, e⟩, k⟩
theorem wo_0 : WO P (.mk .none .none b (.mk r) :: l) t h K = OR P r t h (.w0 l t K) := by
  apply propext; constructor
  · rintro ⟨t', h', ⟨t1, h1, ⟨q, g1, g2⟩, e⟩, k⟩
    have hq := b_of (b := true) (c := q) fun k => g1 k
    subst hq
    rcases g2 with ⟨_, v, rr, p⟩ | ⟨e', _⟩
    · have := f_of fun k => p k
      subst this
      exact ⟨v, h1, rr, t', h', e, k⟩
    · cases e'
  · rintro ⟨v, h1, rr, t', h', e, k⟩
    exact ⟨t', h', ⟨_, h1, ⟨true, fun _ => rfl, .inl ⟨rfl, v, rr, fun k => rfl⟩⟩, e⟩, k⟩
theorem wo_g : WO P (.mk (.some (slOf g) w) (.some (slOf n)) b (.mk r) :: l) t h K = GD P (get g t) w r t h (.w n l t K) := by
  apply propext; constructor
  · rintro ⟨t', h', ⟨t1, h1, ⟨q, g1, g2⟩, e⟩, k⟩
    refine ⟨q, g1, ?_⟩
    rcases g2 with ⟨rfl, v, rr, p⟩ | ⟨rfl, rfl, p⟩
    · have := f_of fun k => (putS k).symm.trans (p k)
      subst this
      exact .inl ⟨rfl, v, h1, rr, t', h', e, k⟩
    · have := f_of fun k => (putS k).symm.trans (p k)
      subst this
      exact .inr ⟨rfl, t', h', e, k⟩
  · rintro ⟨q, g1, ⟨rfl, v, h1, rr, t', h', e, k⟩ | ⟨rfl, t', h', e, k⟩⟩
    · exact ⟨t', h', ⟨_, h1, ⟨true, g1, .inl ⟨rfl, v, rr, fun k => putS k⟩⟩, e⟩, k⟩
    · exact ⟨t', h', ⟨_, h, ⟨false, g1, .inr ⟨rfl, rfl, fun k => putS k⟩⟩, e⟩, k⟩
theorem wo_g0 : WO P (.mk (.some (slOf g) w) .none b (.mk r) :: l) t h K = GD P (get g t) w r t h (.w0 l t K) := by
  apply propext; constructor
  · rintro ⟨t', h', ⟨t1, h1, ⟨q, g1, g2⟩, e⟩, k⟩
    refine ⟨q, g1, ?_⟩
    rcases g2 with ⟨rfl, v, rr, p⟩ | ⟨rfl, rfl, p⟩
    · have := f_of fun k => p k
      subst this
      exact .inl ⟨rfl, v, h1, rr, t', h', e, k⟩
    · have := f_of fun k => p k
      subst this
      exact .inr ⟨rfl, t', h', e, k⟩
  · rintro ⟨q, g1, ⟨rfl, v, h1, rr, t', h', e, k⟩ | ⟨rfl, t', h', e, k⟩⟩
    · exact ⟨t', h', ⟨_, h1, ⟨true, g1, .inl ⟨rfl, v, rr, fun k => rfl⟩⟩, e⟩, k⟩
    · exact ⟨t', h', ⟨_, h, ⟨false, g1, .inr ⟨rfl, rfl, fun k => rfl⟩⟩, e⟩, k⟩
theorem do_c : DO P (.mk .none (.some (slOf n)) true (.mk r) :: l) t h K = OR P r t h (.d n l t K) := by
  apply propext; constructor
  · rintro ⟨t', h', ⟨t1, h1, ⟨q, g1, g2⟩, e⟩, k⟩
    have hq := b_of (b := true) (c := q) fun k => g1 k
    subst hq
    rcases g2 with ⟨_, v, rr, p⟩ | ⟨e', _⟩
    · have := f_of fun k => (putS k).symm.trans (p k)
      subst this
      exact ⟨v, h1, rr, t', h', e, k⟩
    · cases e'
  · rintro ⟨v, h1, rr, t', h', e, k⟩
    exact ⟨t', h', ⟨_, h1, ⟨true, fun _ => rfl, .inl ⟨rfl, v, rr, fun k => putS k⟩⟩, e⟩, k⟩
theorem do_0 : DO P (.mk .none .none true (.mk r) :: l) t h K = OR P r t h (.d0 l t K) := by
  apply propext; constructor
  · rintro ⟨t', h', ⟨t1, h1, ⟨q, g1, g2⟩, e⟩, k⟩
    have hq := b_of (b := true) (c := q) fun k => g1 k
    subst hq
    rcases g2 with ⟨_, v, rr, p⟩ | ⟨e', _⟩
    · have := f_of fun k => p k
      subst this
      exact ⟨v, h1, rr, t', h', e, k⟩
    · cases e'
  · rintro ⟨v, h1, rr, t', h', e, k⟩
    exact ⟨t', h', ⟨_, h1, ⟨true, fun _ => rfl, .inl ⟨rfl, v, rr, fun k => rfl⟩⟩, e⟩, k⟩
theorem do_g : DO P (.mk (.some (slOf g) w) (.some (slOf n)) true (.mk r) :: l) t h K = GD P (get g t) w r t h (.d n l t K) := by
  apply propext; constructor
  · rintro ⟨t', h', ⟨t1, h1, ⟨q, g1, g2⟩, e⟩, k⟩
    refine ⟨q, g1, ?_⟩
    rcases g2 with ⟨rfl, v, rr, p⟩ | ⟨rfl, rfl, p⟩
    · have := f_of fun k => (putS k).symm.trans (p k)
      subst this
      exact .inl ⟨rfl, v, h1, rr, t', h', e, k⟩
    · have := f_of fun k => (putS k).symm.trans (p k)
      subst this
      exact .inr ⟨rfl, t', h', e, k⟩
  · rintro ⟨q, g1, ⟨rfl, v, h1, rr, t', h', e, k⟩ | ⟨rfl, t', h', e, k⟩⟩
    · exact ⟨t', h', ⟨_, h1, ⟨true, g1, .inl ⟨rfl, v, rr, fun k => putS k⟩⟩, e⟩, k⟩
    · exact ⟨t', h', ⟨_, h, ⟨false, g1, .inr ⟨rfl, rfl, fun k => putS k⟩⟩, e⟩, k⟩
theorem do_u : DO P (.mk .none (.some (slOf n)) false (.mk r) :: l) t h K = OR P r t (reFloor h) (.u n l t h K) := by
  apply propext; constructor
  · rintro ⟨t', h', ⟨t1, h1, ⟨q, g1, g2⟩, e⟩, k⟩
    have hq := b_of (b := true) (c := q) fun k => g1 k
    subst hq
    rcases g2 with ⟨_, v, h2, rr, rfl, p⟩ | ⟨e', _⟩
    · have := f_of fun k => (putS k).symm.trans (p k)
      subst this
      exact ⟨v, h2, rr, t', h', e, k⟩
    · cases e'
  · rintro ⟨v, h2, rr, t', h', e, k⟩
    exact ⟨t', h', ⟨_, _, ⟨true, fun _ => rfl, .inl ⟨rfl, v, h2, rr, rfl, fun k => putS k⟩⟩, e⟩, k⟩
theorem do_u0 : DO P (.mk .none .none false (.mk r) :: l) t h K = OR P r t (reFloor h) (.u0 l t h K) := by
  apply propext; constructor
  · rintro ⟨t', h', ⟨t1, h1, ⟨q, g1, g2⟩, e⟩, k⟩
    have hq := b_of (b := true) (c := q) fun k => g1 k
    subst hq
    rcases g2 with ⟨_, v, h2, rr, rfl, p⟩ | ⟨e', _⟩
    · have := f_of fun k => p k
      subst this
      exact ⟨v, h2, rr, t', h', e, k⟩
    · cases e'
  · rintro ⟨v, h2, rr, t', h', e, k⟩
    exact ⟨t', h', ⟨_, _, ⟨true, fun _ => rfl, .inl ⟨rfl, v, h2, rr, rfl, fun k => rfl⟩⟩, e⟩, k⟩
theorem unFloor_re (h : H) : unFloor h (reFloor h) = h := by cases h; rfl
theorem do_gu : DO P (.mk (.some (slOf g) w) (.some (slOf n)) false (.mk r) :: l) t h K = GD P (get g t) w r t (reFloor h) (.u n l t h K) := by
  apply propext; constructor
  · rintro ⟨t', h', ⟨t1, h1, ⟨q, g1, g2⟩, e⟩, k⟩
    refine ⟨q, g1, ?_⟩
    rcases g2 with ⟨rfl, v, h2, rr, rfl, p⟩ | ⟨rfl, rfl, p⟩
    · have := f_of fun k => (putS k).symm.trans (p k)
      subst this
      exact .inl ⟨rfl, v, h2, rr, t', h', e, k⟩
    · have := f_of fun k => (putS k).symm.trans (p k)
      subst this
      exact .inr ⟨rfl, t', h', by rw [unFloor_re]; exact e, k⟩
  · rintro ⟨q, g1, ⟨rfl, v, h2, rr, t', h', e, k⟩ | ⟨rfl, t', h', e, k⟩⟩
    · exact ⟨t', h', ⟨_, _, ⟨true, g1, .inl ⟨rfl, v, h2, rr, rfl, fun k => putS k⟩⟩, e⟩, k⟩
    · rw [unFloor_re] at e
      exact ⟨t', h', ⟨_, h, ⟨false, g1, .inr ⟨rfl, rfl, fun k => putS k⟩⟩, e⟩, k⟩
end
section
variable {P : Program} {l : List CO} {t : F} {h h0 : H} {K : F → H → Prop} {n : Nat} {v : V}
theorem go_w : (Nx.w n l t K).go P v h = WO P l (put n v t) h K := rfl
theorem go_w0 : (Nx.w0 l t K).go P v h = WO P l t h K := rfl
theorem go_d : (Nx.d n l t K).go P v h = DO P l (put n v t) h K := rfl
theorem go_d0 : (Nx.d0 l t K).go P v h = DO P l t h K := rfl
theorem go_u : (Nx.u n l t h0 K).go P v h = DO P l (put n v t) (unFloor h0 h) K := rfl
theorem go_u0 : (Nx.u0 l t h0 K).go P v h = DO P l t (unFloor h0 h) K := rfl
end
section
variable {P : Program} {r : Run} {t : F} {h : H} {N : Nx} {w q : Bool}
theorem gd_eq : GD P (.b q) w r t h N = if q = w then OR P r t h N else N.go P (.tu []) h := by
  have e1 : ∀ f, vG (.b q) w f = f (xor (xor q w) true) := fun _ => rfl
  apply propext; constructor
  · rintro ⟨b, g1, g2⟩
    have := b_of fun k => (e1 k).symm.trans (g1 k)
    subst this
    rcases g2 with ⟨e, k⟩ | ⟨e, k⟩
    · rw [if_pos (by cases q <;> cases w <;> simp_all)]; exact k
    · rw [if_neg (by cases q <;> cases w <;> simp_all)]; exact k
  · intro k
    refine ⟨_, e1, ?_⟩
    split at k
    · rename_i e; exact .inl ⟨by cases q <;> cases w <;> simp_all, k⟩
    · rename_i e; exact .inr ⟨by cases q <;> cases w <;> simp_all, k⟩
theorem gd_tt : GD P (.b true) true r t h N = OR P r t h N := by rw [gd_eq]; rfl
theorem gd_ff : GD P (.b false) false r t h N = OR P r t h N := by rw [gd_eq]; rfl
theorem gd_tf : GD P (.b true) false r t h N = N.go P (.tu []) h := by rw [gd_eq]; rfl
theorem gd_ft : GD P (.b false) true r t h N = N.go P (.tu []) h := by rw [gd_eq]; rfl
theorem gd_tu : GD P (.tu []) w r t h N = N.go P (.tu []) h := by
  have e1 : ∀ f, vG (.tu []) w f = f false := fun _ => rfl
  apply propext; constructor
  · rintro ⟨b, g1, g2⟩
    have := b_of fun k => (e1 k).symm.trans (g1 k)
    subst this
    rcases g2 with ⟨e, k⟩ | ⟨e, k⟩
    · cases e
    · exact k
  · intro k; exact ⟨_, e1, .inr ⟨rfl, k⟩⟩
/-- a guard that isn't decided -/
theorem gd_split (a : q = true → GD P (.b true) w r t h N) (b : q = false → GD P (.b false) w r t h N) : GD P (.b q) w r t h N := by
  cases q with
  | true => exact a rfl
  | false => exact b rfl
end
def HV (P : Program) (g : (V → Bool) → Bool) (h : H) (N : Nx) : Prop := ∃ v, (∀ k, g k = k v) ∧ N.go P v h
def H1 (P : Program) (g : V → (V → Bool) → Bool) (x : V) (h : H) (N : Nx) : Prop := HV P (g x) h N
def H2 (P : Program) (g : V → V → (V → Bool) → Bool) (x y : V) (h : H) (N : Nx) : Prop := HV P (g x y) h N
def H3 (P : Program) (g : V → V → V → (V → Bool) → Bool) (x y z : V) (h : H) (N : Nx) : Prop := HV P (g x y z) h N
theorem or_hv {P : Program} {r : Run} {t : F} {h : H} {N : Nx} {g : (V → Bool) → Bool} (e : ∀ cf k, r cf t h k = g fun v => k v h) : OR P r t h N = HV P g h N := by
  apply propext; constructor
  · rintro ⟨v, h', ⟨cf, c1, c2⟩, k⟩
    have hh : h' = h := by
      have h1 := c2 fun _ x => @decide (x = h) (Classical.propDecidable _)
      have h2 := c2 fun _ _ => true
      have e1 := e cf fun _ x => @decide (x = h) (Classical.propDecidable _)
      have e2 := e cf fun _ _ => true
      have : (fun (v : V) => (fun _ x => @decide (x = h) (Classical.propDecidable _)) v h) = fun (v : V) => (fun _ _ => true) v h := by funext v; simp
      rw [this, ← e2] at e1
      have h1' : r cf t h (fun _ x => @decide (x = h) (Classical.propDecidable _)) = @decide (h' = h) (Classical.propDecidable _) := h1
      have h2' : r cf t h (fun _ _ => true) = true := h2
      rw [e1, h2'] at h1'
      simpa using h1'.symm
    subst hh
    exact ⟨v, fun k0 => by rw [← e cf fun v _ => k0 v]; exact c2 _, k⟩
  · rintro ⟨v, g1, k⟩
    exact ⟨v, h, ⟨_, cfSome P, fun k => by show r _ t h k = _; rw [e, g1]⟩, k⟩
theorem hv_of {P : Program} {h : H} {N : Nx} {g : (V → Bool) → Bool} {v : V} (e : ∀ k, g k = k v) : HV P g h N = N.go P v h :=
  propext ⟨fun ⟨u, g1, k⟩ => by have := v_of fun k => (e k).symm.trans (g1 k); subst this; exact k, fun k => ⟨v, e, k⟩⟩
noncomputable def gBin (f : BinF) (x y : V) (k : V → Bool) : Bool := vI x fun kd a => vI y fun kd' b => ifK (kdEq kd kd') fun _ => f kd a b k
noncomputable def gShift (f : IntKind → Int → Nat → (V → Bool) → Bool) (x y : V) (k : V → Bool) : Bool := vI x fun kd a => vI y fun _ b => natK b fun n => f kd a (min n kd.bits) k
noncomputable def gRem (x y : V) (k : V → Bool) : Bool := vI y fun kd' b => vIR x (fun kd a => ifK (kdEq kd kd') fun _ => fRem kd a b k) fun kd m r _ => remR kd' b k kd m r
noncomputable def gBool (ne : Bool) (x y : V) (k : V → Bool) : Bool := vB x fun a => vB y fun b => k (.b (xor ne (xor (xor a b) true)))
noncomputable def gNot (x : V) (k : V → Bool) : Bool := vB x fun a => k (.b (!a))
noncomputable def gNeg (x : V) (k : V → Bool) : Bool := vI x fun kd n => wrapF (Int.neg n) kd (mxOf kd) k
noncomputable def gConv (kd : IntKind) (x : V) (k : V → Bool) : Bool := vIR x (fun _ n => k (.i kd (kd.wrap n))) fun _ m r hi => ifK (Nat.ble hi (mxOf kd)) fun _ => k (.r kd m r hi)
noncomputable def gExt (j : Nat) (x : V) (k : V → Bool) : Bool := vT x fun vs => optK (vs[j]?) k
noncomputable def gLenS (x : V) (k : V → Bool) : Bool := vS x fun n _ => k (.i .i64 (.ofNat n))
noncomputable def gLen (x : V) (k : V → Bool) : Bool := lenV x fun n => k (.i .i64 (n : Int))
noncomputable def gMin (x y : V) (k : V → Bool) : Bool := vI x fun kd a => vI y fun kd' b => ifK (kdEq kd kd') fun _ => k (.i kd (min a b))
noncomputable def gMMS (f : Nat → Nat → Nat → Nat → Bool) (x y : V) (k : V → Bool) : Bool := vS x fun la na => vS y fun lb nb => boolK (f la na lb nb) (fun _ => k (.s la na)) (fun _ => k (.s lb nb))
noncomputable def gMax (x y : V) (k : V → Bool) : Bool := vI x fun kd a => vI y fun kd' b => ifK (kdEq kd kd') fun _ => k (.i kd (max a b))
noncomputable def gPick (c x y : V) (k : V → Bool) : Bool := vB c fun q => k (cond q x y)
noncomputable def gField (d : Nat) (x : V) (k : V → Bool) : Bool := vA x fun cs => optK (cs[d]?) k
noncomputable def gFieldA (d size : Nat) (x : V) (k : V → Bool) : Bool := vA x fun cs => k (.a ((cs.drop d).take size))
noncomputable def gFieldAddr (d : Nat) (x : V) (k : V → Bool) : Bool := vP x fun id g off fin => k (.p id g (off + d) fin)
noncomputable def gNilCheck (x : V) (k : V → Bool) : Bool := vP x fun id g off fin => k (.p id g off fin)
noncomputable def gIndex (size : Nat) (x y : V) (k : V → Bool) : Bool := vI y fun _ n => natK n fun n => idxV size x n k
noncomputable def gIndexArr (len size : Nat) (x y : V) (k : V → Bool) : Bool := vP x fun id g off fin => vI y fun _ n => natK n fun n => ifK (Nat.ble (Nat.succ n) len) fun _ => k (.p id g (off + n * size) fin)
noncomputable def gSIndex (x y : V) (k : V → Bool) : Bool := vI y fun _ n => natK n fun n => sixV x n k
noncomputable def gAIndex (len size : Nat) (x y : V) (k : V → Bool) : Bool := vA x fun cs => vI y fun _ n => natK n fun n => ifK (Nat.ble (Nat.succ n) len) fun _ => optK (cs[Nat.mul n size]?) k
noncomputable def gSS2 (x a b : V) (k : V → Bool) : Bool := vI a fun _ p => natK p fun p => vI b fun _ q => natK q fun q => ssV x p q k
noncomputable def gSS1 (x b : V) (k : V → Bool) : Bool := vI b fun _ q => natK q fun q => ssV x 0 q k
noncomputable def gSSa (x a : V) (k : V → Bool) : Bool := vI a fun _ p => natK p fun p => ssaV x p k
noncomputable def gMoveS (x : V) (k : V → Bool) : Bool := vS x fun l n => k (.s l n)
noncomputable def gNil (f : V → (Bool → Bool) → Bool) (ne : Bool) (x y : V) (k : V → Bool) : Bool := f x fun a => f y fun b => ifK (a || b) fun _ => k (.b (xor ne (a && b)))
noncomputable def gSliceArr (n size : Nat) (x a : V) (k : V → Bool) : Bool := vP x fun id g off fin => vI a fun _ p => natK p fun p => ifK (Nat.ble p n) fun _ => sliceC size id g off n fin n p n k
section
variable {P : Program} {t : F} {h : H} {N : Nx} (o x y c : O)
theorem or_move : OR P (doMove o) t h N = N.go P (oV o t) h := (or_hv (g := fun k => k (oV o t)) fun cf k => ev_move ..).trans (hv_of fun _ => rfl)
theorem or_pick : OR P (doPick c x y) t h N = H3 P gPick (oV c t) (oV x t) (oV y t) h N := or_hv fun cf k => ev_pick ..
theorem or_bin (f : BinF) : OR P (bin2 f x y) t h N = H2 P (gBin f) (oV x t) (oV y t) h N := or_hv fun cf k => ev_bin ..
theorem or_shift (f : IntKind → Int → Nat → (V → Bool) → Bool) : OR P (doShift f x y) t h N = H2 P (gShift f) (oV x t) (oV y t) h N := or_hv fun cf k => ev_shift ..
theorem or_rem : OR P (doRem x y) t h N = H2 P gRem (oV x t) (oV y t) h N := or_hv fun cf k => ev_rem ..
theorem or_bool (ne : Bool) : OR P (doBool ne x y) t h N = H2 P (gBool ne) (oV x t) (oV y t) h N := or_hv fun cf k => ev_bool ..
theorem or_not : OR P (doNot x) t h N = H1 P gNot (oV x t) h N := or_hv fun cf k => ev_not ..
theorem or_neg : OR P (doNeg x) t h N = H1 P gNeg (oV x t) h N := or_hv fun cf k => by simp only [doNeg, oE_eq]; rfl
theorem or_conv (kd : IntKind) : OR P (doConv kd x) t h N = H1 P (gConv kd) (oV x t) h N := or_hv fun cf k => ev_convR ..
theorem or_ext (j : Nat) : OR P (doExtract j x) t h N = H1 P (gExt j) (oV x t) h N := or_hv fun cf k => ev_extract ..
theorem or_lenS : OR P (doLenS x) t h N = H1 P gLenS (oV x t) h N := or_hv fun cf k => ev_lenS ..
theorem or_len : OR P (doLen x) t h N = H1 P gLen (oV x t) h N := or_hv fun cf k => ev_len ..
theorem or_min : OR P (doMin x y) t h N = H2 P gMin (oV x t) (oV y t) h N := or_hv fun cf k => ev_min ..
theorem or_mms (f : Nat → Nat → Nat → Nat → Bool) : OR P (doMMS f x y) t h N = H2 P (gMMS f) (oV x t) (oV y t) h N := or_hv fun cf k => by simp only [doMMS, oE_eq]; rfl
theorem or_max : OR P (doMax x y) t h N = H2 P gMax (oV x t) (oV y t) h N := or_hv fun cf k => ev_max ..
theorem or_field (d : Nat) : OR P (doField d o) t h N = H1 P (gField d) (oV o t) h N := or_hv fun cf k => ev_field ..
theorem or_fieldA (d size : Nat) : OR P (doFieldA d size o) t h N = H1 P (gFieldA d size) (oV o t) h N := or_hv fun cf k => ev_fieldA ..
theorem or_fieldAddr (d : Nat) : OR P (doFieldAddr d o) t h N = H1 P (gFieldAddr d) (oV o t) h N := or_hv fun cf k => ev_fieldAddr ..
theorem or_nilCheck : OR P (doNilCheck o) t h N = H1 P gNilCheck (oV o t) h N := or_hv fun cf k => ev_nilCheck ..
theorem or_idx (size : Nat) : OR P (doIndexAddr size o x) t h N = H2 P (gIndex size) (oV o t) (oV x t) h N := or_hv fun cf k => ev_idx ..
theorem or_idxArr (len size : Nat) : OR P (doIndexAddrArr len size o x) t h N = H2 P (gIndexArr len size) (oV o t) (oV x t) h N := or_hv fun cf k => ev_idxArr ..
theorem or_sindex : OR P (doSIndex x y) t h N = H2 P gSIndex (oV x t) (oV y t) h N := or_hv fun cf k => ev_sindex ..
theorem or_aindex (len size : Nat) : OR P (doAIndex len size x y) t h N = H2 P (gAIndex len size) (oV x t) (oV y t) h N := or_hv fun cf k => by simp only [doAIndex, oE_eq, forceV_eq]; rfl
theorem or_concat : OR P (doConcat x y) t h N = H2 P catV (oV x t) (oV y t) h N := or_hv fun cf k => ev_concat ..
theorem or_scmp (f : Nat → Nat → Nat → Nat → Bool) : OR P (doSCmp f x y) t h N = H2 P (scV f) (oV x t) (oV y t) h N := or_hv fun cf k => ev_scmp ..
theorem or_cmpS : OR P (doCmpS x y) t h N = H2 P cmV (oV x t) (oV y t) h N := or_hv fun cf k => ev_cmpS ..
theorem or_ss2 (a b : O) : OR P (doSSlice x (some a) (some b)) t h N = H3 P gSS2 (oV x t) (oV a t) (oV b t) h N := or_hv fun cf k => ev_ss2 ..
theorem or_ss1 (b : O) : OR P (doSSlice x none (some b)) t h N = H2 P gSS1 (oV x t) (oV b t) h N := or_hv fun cf k => ev_ss1 ..
theorem or_ssa (a : O) : OR P (doSSlice x (some a) none) t h N = H2 P gSSa (oV x t) (oV a t) h N := or_hv fun cf k => ev_ssa ..
theorem or_moveS : OR P (doMoveS x) t h N = H1 P gMoveS (oV x t) h N := or_hv fun cf k => by simp only [doMoveS, oE_eq]; rfl
theorem or_nil (f : V → (Bool → Bool) → Bool) (ne : Bool) : OR P (doNil f ne x y) t h N = H2 P (gNil f ne) (oV x t) (oV y t) h N := or_hv fun cf k => by simp only [doNil, oE_eq, fB_eq]; rfl
theorem or_sliceArr (n size : Nat) (a : O) : OR P (doSliceArr n size x (some a) none) t h N = H2 P (gSliceArr n size) (oV x t) (oV a t) h N := or_hv fun cf k => ev_sliceArr ..
end
end Go.Ev

set_option linter.all false
namespace Go.Ev
open Go
/-- a block of the call's own, with its elements' type -/
def OwnE (h : H) (id : B) (el : Nat) (xs : List V) : Prop := ∃ blk, h.heap.get id = some blk ∧ blk.cur = 0 ∧ blk.min = 0 ∧ blk.fr = 0 ∧ blk.el = el ∧ B.val h.floor ≤ B.val id ∧ B.val id < B.val h.next ∧ ∀ i y, xs[i]? = some y → blk.cells.getN i = some y
theorem OwnE.own {h : H} {id : B} {el : Nat} {xs : List V} (o : OwnE h id el xs) : Own h id xs := by
  obtain ⟨blk, h1, h2, h3, h4, h5, h6, h7, h8⟩ := o
  exact ⟨blk, h1, h2, h3, h4, h6, h7, h8⟩
theorem OwnE.stay {p : B → Prop} {h h' : H} {id : B} {el : Nat} {xs : List V} (o : OwnE h id el xs) (s : Stay p h h') (hp : ¬ p id) : OwnE h' id el xs := by
  obtain ⟨blk, h1, h2, h3, h4, h5, h6, h7, h8⟩ := o
  exact ⟨blk, (s.get id h7 hp).trans h1, h2, h3, h4, h5, by rw [s.floor]; exact h6, Nat.lt_of_lt_of_le h7 s.next, h8⟩
theorem OwnE.lt {h : H} {id : B} {el : Nat} {xs : List V} (o : OwnE h id el xs) : B.val id < B.val h.next := by obtain ⟨_, _, _, _, _, _, _, h7, _⟩ := o; exact h7
section
variable {P : Program} {S : Spec} {l : List CO} {t : F} {h : H} {K : F → H → Prop}
end
theorem elK_own {h : H} {id : B} {el : Nat} {xs : List V} (o : OwnE h id el xs) (k : Unit → Bool) : elK h id 0 el k = k () := by
  obtain ⟨blk, h1, h2, h3, h4, h5, h6, h7, h8⟩ := o
  obtain ⟨next, floor, heap⟩ := h
  obtain ⟨cur, min, sz, cells, bel, fr⟩ := blk
  simp only at h3 h5
  subst h3; subst h5
  have h1' : heap.get id = some ⟨cur, 0, sz, cells, bel, fr⟩ := h1
  have e1 : Nat.ble 0 0 = true := rfl
  have e2 : Nat.beq bel bel = true := Nat.beq_refl bel
  simp only [elK, hK_mk, h1', optK_some, blkK_mk, e1, e2, ifK_true]
section
variable (cf : CallF) (t : F) (h : H) (k : V → H → Bool) (x y : O)
end
theorem unpK_map : ∀ (m : Nat) (l : List UInt8) (acc : List V) (k : List V → Bool), l.length = m → unpK m (pk l) acc k = k (l.map bv ++ acc) := by
  intro m
  induction m with
  | zero =>
    intro l acc k h
    have : l = [] := List.eq_nil_of_length_eq_zero h
    subst this; rfl
  | succ m ih =>
    intro l acc k h
    have hne : l ≠ [] := by intro h0; subst h0; simp at h
    obtain ⟨l', b, rfl⟩ : ∃ l' b, l = l' ++ [b] := ⟨l.dropLast, l.getLast hne, (List.dropLast_concat_getLast hne).symm⟩
    have hs := pk_split l' [b]
    have hb : pk [b] = b.toNat := by simp [pk]
    simp only [List.length_cons, List.length_nil, Nat.zero_add, Nat.pow_one, hb] at hs
    show fN (Nat.mod (pk (l' ++ [b])) 256) (fun c => fN (Nat.div (pk (l' ++ [b])) 256) fun n => unpK m n (.i .u8 (.ofNat c) :: acc) k) = _
    rw [fN_eq, fN_eq]
    have e1 : Nat.mod (pk (l' ++ [b])) 256 = b.toNat := hs.2
    have e2 : Nat.div (pk (l' ++ [b])) 256 = pk l' := hs.1
    rw [e1, e2, ih l' _ k (by simpa using h)]
    simp [bv]
theorem allOne_bv : ∀ l : List UInt8, allOne (l.map bv) = true
  | [] => rfl
  | _ :: l => allOne_bv l
section
variable {P : Program} {S : Spec} {l : List CO} {t : F} {h : H} {K : F → H → Prop}
end
/-- a Builder of the call's own, behind 'lo', in the blocks U, with the bytes a -/
structure Sb (h : H) (lo elB el8 : Nat) (id : B) (U : B → Prop) (a : List UInt8) : Prop where
  made : ∃ adr w, OwnE h id elB [adr, w] ∧ (adr = .p0 ∨ adr = .p id 0 0 2) ∧ Buf h el8 1 w (a.map bv) ∧ (∀ i, isOf w i → U i) ∧ ¬ isOf w id
  self : U id
  lo : ∀ i, U i → lo ≤ B.val i ∧ B.val i < B.val h.next
theorem Sb.stay {h h' : H} {lo elB el8 : Nat} {id : B} {U p : B → Prop} {a : List UInt8} (s : Sb h lo elB el8 id U a) (st : Stay p h h') (hp : ∀ i, U i → ¬ p i) : Sb h' lo elB el8 id U a := by
  obtain ⟨⟨adr, w, o, ha, b, hw, hn⟩, hs, hlo⟩ := s
  exact ⟨⟨adr, w, o.stay st (hp _ hs), ha, b.stay st fun i hi => hp i (hw i hi), hw, hn⟩, hs, fun i hi => ⟨(hlo i hi).1, Nat.lt_of_lt_of_le (hlo i hi).2 st.next⟩⟩
/-- a slice of one-cell elements of the call's own, behind 'lo' -/
structure Vb (h : H) (lo el : Nat) (v : V) (xs : List V) : Prop where
  buf : Buf h el 1 v xs
  own : ∀ i, isOf v i → lo ≤ B.val i
theorem Vb.nil (h : H) (lo el : Nat) : Vb h lo el .l0 [] := ⟨Buf.nil h el 1, fun i hi => by obtain ⟨_, _, _, _, _, e⟩ := hi; cases e⟩
theorem Vb.stay {p : B → Prop} {h h' : H} {lo el : Nat} {v : V} {xs : List V} (a : Vb h lo el v xs) (s : Stay p h h') (hp : ∀ i, isOf v i → ¬ p i) : Vb h' lo el v xs := ⟨a.buf.stay s hp, a.own⟩
theorem Vb.grow {h h' : H} {lo el : Nat} {v : V} {xs : List V} (a : Vb h lo el v xs) (s : Stay nowhere h h') : Vb h' lo el v xs := ⟨a.buf.grow s, a.own⟩
/-- a new slice of bytes, in a block of the call's own that begins at 0; its end is marked, so that it is no Buf -/
theorem s2b_new (el : Nat) {l : List UInt8} {h : H} (hf : B.val h.floor ≤ B.val h.next) (hl : l.length ≤ 1048576) :
    ∃ h', (∀ (x : O) (t : F) (cf : CallF) (k : V → H → Bool), oV x t = sv l → doS2B el x cf t h k = k (.l h.next 0 0 l.length l.length (capF l.length)) h') ∧ Stay nowhere h h' ∧ B.val h'.next = B.val h.next + 1 ∧
      Row h' h.next 0 0 (l.map bv) ∧ Lst h' (.l h.next 0 0 l.length l.length (capF l.length)) (l.map bv) ∧
      ∃ cells, h'.heap.get h.next = some ⟨0, 0, l.length, cells, el, 1⟩ ∧ ∀ i y, (l.map bv)[i]? = some y → cells.getN i = some y := by
  obtain ⟨⟨nx, fl, heap⟩, a1, a2, a3, ⟨cur, min, sz, cells, bel, fr⟩, b1, b2, b3, b4, b5, b6, b7⟩ := alloc_new el (l.map bv) h (by simp; omega)
  simp only at b2 b3 b4 b5 b6 b7
  subst b2; subst b3; subst b5; subst b6
  rw [List.length_map] at b4
  subst b4
  obtain ⟨hp, s1, s2, s3⟩ := setK_ok h.next (⟨0, 0, l.length, cells, bel, 1⟩ : Blk) heap
  have hfl : fl = h.floor := a2.floor
  have g3 : B.geB fl h.next = true := by
    rw [hfl]
    cases hfx : h.floor <;> first | rfl | (rw [hfx] at hf; show Nat.ble _ _ = true; rw [Nat.ble_eq]; exact hf)
  have g5 : Nat.ble l.length 1048576 = true := by rw [Nat.ble_eq]; exact hl
  have b1' : heap.get h.next = some ⟨0, 0, l.length, cells, bel, 0⟩ := b1
  have hrow : Row ⟨nx, fl, hp⟩ h.next 0 0 (l.map bv) := by
    refine ⟨fun _ => ⟨_, s2, Nat.le_refl _⟩, fun i y hy => ?_⟩
    unfold Ev.cell cellB
    show (match hp.get h.next with | some b => if b.min ≤ 0 then b.cells.getN (0 + i) else none | none => none) = _
    rw [s2]
    simp only [Nat.le_refl, if_true, Nat.zero_add]
    exact b7 i y hy
  refine ⟨⟨nx, fl, hp⟩, fun x t cf k e => ?_, ⟨a2.floor, a2.next, fun id h1 h2 => (s3 id fun e => by rw [e] at h1; exact absurd h1 (Nat.lt_irrefl _)).trans (a2.get id h1 h2)⟩, a3, hrow,
    .inr ⟨h.next, 0, 0, l.length, capF l.length, by rw [List.length_map], by rw [List.length_map]; omega, by show B.val h.next < B.val nx; have : B.val nx = B.val h.next + 1 := a3; omega, hrow⟩, cells, s2, b7⟩
  simp only [doS2B, oE_eq, e]
  show ifK (Nat.ble l.length 1048576) (fun _ => unpK l.length (pk l) [] fun vs => alloc bel vs h fun id h => markK h id fun h => k (.l id 0 0 l.length l.length (capF l.length)) h) = _
  rw [g5, ifK_true, unpK_map _ _ _ _ rfl, List.append_nil, a1]
  simp only [markK, hK_mk, b1', optK_some, blkK_mk, g3, ifK_true]
  have g0 : Nat.beq 0 0 = true := rfl
  rw [g0, ifK_true]
  exact s1 _
section
variable {P : Program} {S : Spec} {l : List CO} {t : F} {h : H} {K : F → H → Prop}
end
/-- v is the newest slice of its block -/
def Top (h : H) (v : V) : Prop := ∀ id g off n fin cap, v = .l id g off n fin cap → ∃ blk, h.heap.get id = some blk ∧ blk.cur = g
theorem Top.nil (h : H) : Top h .l0 := fun _ _ _ _ _ _ e => by cases e
theorem Top.stay {p : B → Prop} {h h' : H} {v : V} (a : Top h v) (s : Stay p h h') (hl : ∀ id, isOf v id → B.val id < B.val h.next) (hp : ∀ id, isOf v id → ¬ p id) : Top h' v := fun id g off n fin cap e => by
  obtain ⟨blk, h1, h2⟩ := a id g off n fin cap e
  have i : isOf v id := ⟨_, _, _, _, _, e⟩
  exact ⟨blk, (s.get id (hl id i) (hp id i)).trans h1, h2⟩
theorem append_top {h : H} {el size n : Nat} {v : V} {xs vs : List V} (b : Buf h el size v xs) (hf : B.val h.floor ≤ B.val h.next) (hsz : 1 ≤ size) (hn : vs.length = n * size) (h1 : allOne vs = true) (hb : xs.length + vs.length ≤ 1048576) :
    ∃ v' h', (∀ k, append2 el size v n vs h k = k v' h') ∧ Buf h' el size v' (xs ++ vs) ∧ Stay (isOf v) h h' ∧ (∀ id, isOf v' id → isOf v id ∨ B.val h.next ≤ B.val id) ∧ Top h' v' := by
  have hle : n ≤ vs.length := by rw [hn]; exact Nat.le_mul_of_pos_right _ hsz
  rcases b with ⟨rfl, rfl⟩ | ⟨id, g, m, blk, rfl, b1, b2, b3, b4, b5, b6, b7, b8, b9, b10⟩
  · cases n with
    | zero =>
      have : vs = [] := List.eq_nil_of_length_eq_zero (by simpa using hn)
      subst this
      exact ⟨.l0, h, fun k => rfl, Buf.nil h el size, Stay.refl _ h, fun id i => .inl i, fun _ _ _ _ _ _ e => by cases e⟩
    | succ n =>
      obtain ⟨h', a1, a2, a3, blk, c1, c2, c3, c4, c5, c6, c7⟩ := alloc_new el vs h (by omega)
      have hble : Nat.ble (n + 1) 1048576 = true := by rw [Nat.ble_eq]; simp at hb; omega
      refine ⟨.l h.next 0 0 (n + 1) vs.length none, h', fun k => ?_, .inr ⟨h.next, 0, n + 1, blk, rfl, by omega, hn, by rw [a2.floor]; exact hf, by omega, c1, ⟨by omega, by omega⟩, c4, c5, c6, c7⟩, a2.mono fun _ _ h => h.elim, fun id i => ?_, fun _ _ _ _ _ _ e => by cases e; exact ⟨blk, c1, c3⟩⟩
      · show (ifK (Nat.ble (n + 1) 1048576) fun _ => alloc el vs h fun id h => k (.l id 0 0 (n + 1) vs.length none) h) = _
        rw [hble, ifK_true, a1]
      · obtain ⟨_, _, _, _, _, e⟩ := i; cases e; exact .inr (Nat.le_refl _)
  · obtain ⟨next, floor, heap⟩ := h
    obtain ⟨cur, min, sz, cells, bel, fr⟩ := blk
    simp only at b6 b7 b8 b9 b10
    obtain ⟨tr, t1, t2, t3⟩ := setList_fine vs sz cells (by omega)
    obtain ⟨hp, s1, s2, s3⟩ := setK_ok id (⟨Nat.succ cur, min, Nat.add sz (Nat.mul n size), tr, bel, fr⟩ : Blk) heap
    have e1 : Nat.ble min g = true := by rw [Nat.ble_eq]; exact b6.1
    have e2 : B.geB floor id = true := by
      cases floor <;> first | rfl | (show Nat.ble _ _ = true; rw [Nat.ble_eq]; exact b3)
    have e3 : Nat.add 0 (Nat.mul m size) = sz := by
      show 0 + m * size = sz
      omega
    have e3' : Nat.ble sz sz = true := by rw [Nat.ble_eq]; exact Nat.le_refl _
    have e4 : Nat.beq xs.length sz = true := by rw [b7]; simp
    have e4' : Nat.beq sz sz = true := Nat.beq_refl _
    have e9 : capZ size (Nat.add m n) = none := capZ_pos (by show 1 ≤ m + n; omega)
    have e5 : Nat.ble 1 m = true := by rw [Nat.ble_eq]; exact b1
    have hm : m ≤ xs.length := by rw [b2]; exact Nat.le_mul_of_pos_right _ hsz
    have e6 : Nat.ble (Nat.add m n) 1048576 = true := by rw [Nat.ble_eq]; show m + n ≤ 1048576; omega
    have e7 : frOk fr sz = true := by rw [b9]; rfl
    have e8 : Nat.beq bel el = true := by rw [b8]; simp
    refine ⟨.l id (Nat.succ cur) 0 (m + n) (sz + n * size) none, ⟨next, floor, hp⟩, fun k => ?_, .inr ⟨id, Nat.succ cur, m + n, _, ?_, by omega, ?_, b3, b4, s2, ?_, ?_, b8, b9, fun i y hy => ?_⟩, ⟨rfl, Nat.le_refl _, fun id' _ hne => s3 id' fun e => hne (by subst e; exact ⟨_, _, _, _, _, rfl⟩)⟩, fun id' i => ?_, fun _ _ _ _ _ _ e => by cases e; exact ⟨_, s2, rfl⟩⟩
    · show appGrow (Nat.ble 1 m) el id g 0 m xs.length size n vs ⟨next, floor, heap⟩ k = _
      have b5' : heap.get id = some ⟨cur, min, sz, cells, bel, fr⟩ := b5
      simp only [appGrow, hK_mk, b5', optK_some, blkK_mk, fN_eq, e3, e1, e2, e3', e4, e4', selN_t, e5, e6, h1, e7, e8, e9, ifK_true]
      rw [t1, s1]; rfl
    · show V.l id (Nat.succ cur) 0 (m + n) (sz + n * size) none = V.l id (Nat.succ cur) 0 (m + n) (xs ++ vs).length none
      rw [List.length_append, hn, b7]
    · rw [List.length_append, hn, b2, Nat.add_mul]
    · exact ⟨by show min ≤ cur + 1; omega, Nat.le_refl _⟩
    · show Nat.add sz (Nat.mul n size) = (xs ++ vs).length
      rw [List.length_append, hn, b7]; rfl
    · show tr.getN i = some y
      by_cases hi : i < xs.length
      · rw [t3 i (.inl (by omega))]
        refine b10 i y ?_
        rwa [List.getElem?_append_left hi] at hy
      · have hi' : i - xs.length < vs.length := by
          have := (List.getElem?_eq_some_iff.1 hy).1
          simp at this; omega
        rw [List.getElem?_append_right (by omega)] at hy
        have := t2 (i - xs.length) y hy
        rwa [show sz + (i - xs.length) = i by omega] at this
    · obtain ⟨_, _, _, _, _, e⟩ := i; cases e; exact .inl ⟨_, _, _, _, _, rfl⟩
/-- at one place written -/
theorem store_buf {h : H} {el : Nat} {v : V} {xs : List V} {j : Nat} {y : V} (b : Buf h el 1 v xs) (tp : Top h v) (hj : j < xs.length) (hfit : j < 2 ^ 37) (h1 : oneV y = true) :
    ∃ h', (∀ k, store h (lid v) (lg v) (loff v + j) (lfin v) [y] k = k h') ∧ Buf h' el 1 v (xs.set j y) ∧ Top h' v ∧ Stay (isOf v) h h' := by
  rcases b with ⟨rfl, rfl⟩ | ⟨id, g, m, blk, rfl, b1, b2, b3, b4, b5, b6, b7, b8, b9, b10⟩
  · exact absurd hj (Nat.not_lt_zero _)
  obtain ⟨blk', b5', hcur⟩ := tp id g 0 m xs.length none rfl
  have hbb : blk' = blk := by rw [b5] at b5'; exact (Option.some.inj b5').symm
  subst hbb
  obtain ⟨next, floor, heap⟩ := h
  obtain ⟨cur, min, sz, cells, bel, fr⟩ := blk'
  simp only at b6 b7 b8 b9 b10 hcur
  subst hcur; subst b9
  obtain ⟨tr, t1, t2, t3⟩ := setList_fine [y] j cells (by simp; omega)
  obtain ⟨hp, s1, s2, s3⟩ := setK_ok id (⟨cur, cur, sz, tr, bel, 0⟩ : Blk) heap
  have e1 : B.geB floor id = true := by cases floor <;> first | rfl | (show Nat.ble _ _ = true; rw [Nat.ble_eq]; exact b3)
  have e2 : Nat.ble (Nat.add j 1) xs.length = true := by rw [Nat.ble_eq]; exact hj
  have e3 : allOne [y] = true := by show Bool.rec false true (oneV y) = true; rw [h1]
  have e4 : frOk 0 j = true := rfl
  have e5 : Nat.beq cur cur = true := Nat.beq_refl cur
  have e6 : Nat.ble min cur = true := by rw [Nat.ble_eq]; exact b6.1
  have b5'' : heap.get id = some ⟨cur, min, sz, cells, bel, 0⟩ := b5
  refine ⟨⟨next, floor, hp⟩, fun k => ?_, .inr ⟨id, cur, m, _, by rw [List.length_set], b1, by rw [List.length_set]; exact b2, b3, b4, s2, ⟨Nat.le_refl _, Nat.le_refl _⟩, by rw [List.length_set]; exact b7, b8, rfl, fun i z hz => ?_⟩, fun _ _ _ _ _ _ e => by cases e; exact ⟨_, s2, rfl⟩, ⟨rfl, Nat.le_refl _, fun i _ hi => s3 i fun e => hi (by subst e; exact ⟨_, _, _, _, _, rfl⟩)⟩⟩
  · show store ⟨next, floor, heap⟩ id cur (0 + j) xs.length [y] k = _
    rw [Nat.zero_add]
    simp only [store, hK_mk, b5'', optK_some, blkK_mk, List.length_singleton, e5, e6, e1, e2, e3, e4, ifK_true]
    rw [t1, s1]
  · show tr.getN i = some z
    rw [List.getElem?_set] at hz
    split at hz
    · rename_i hij
      subst hij
      first
      | (rw [if_pos hj] at hz; cases hz; exact t2 0 y rfl)
      | (cases hz; exact t2 0 y rfl)
    · rename_i hij
      rw [t3 i (by simp; omega)]
      exact b10 i z hz
section
variable {P : Program} {S : Spec} {l : List CO} {t : F} {h : H} {K : F → H → Prop}
end
noncomputable def slLoV (size : Nat) (v w : V) (k : V → Bool) : Bool := vL v (fun _ => vI w fun _ n => natK n fun a => ifK (Nat.beq a 0) fun _ => ifK (Nat.beq 0 0) fun _ => k .l0) fun id g off len fin cap => vI w fun _ n => natK n fun a => ifK (Nat.ble a len) fun _ =>
  Option.rec (fun id g off len fin a b k => sliceN size id g off len fin a b fun v => k v) (fun c id g off len fin a b k => boolK (flagB c) (fun _ => ifK (Nat.beq b 0) fun _ => k (.l id g off 0 off (some c))) (fun _ => sliceC size id g off len fin c a b fun v => k v)) cap id g off len fin a len k
noncomputable def slHiV (size : Nat) (v w : V) (k : V → Bool) : Bool := vL v (fun _ => vI w fun _ n => natK n fun b => ifK (Nat.beq 0 0) fun _ => ifK (Nat.beq b 0) fun _ => k .l0) fun id g off len fin cap => vI w fun _ n => natK n fun b => ifK (Nat.ble 0 b) fun _ =>
  Option.rec (fun id g off len fin a b k => sliceN size id g off len fin a b fun v => k v) (fun c id g off len fin a b k => boolK (flagB c) (fun _ => ifK (Nat.beq b 0) fun _ => k (.l id g off 0 off (some c))) (fun _ => sliceC size id g off len fin c a b fun v => k v)) cap id g off len fin 0 b k
section
variable {cf : CallF} {t : F} {h : H} {k : V → H → Bool} {x a : O}
theorem ev_slLo (size : Nat) : doSlice size x (some a) none cf t h k = slLoV size (oV x t) (oV a t) fun v => k v h := by
  unfold slLoV
  simp only [doSlice, oE_eq, boundK]
  congr 1
  funext id g off len fin cap
  congr 1; funext _ n; congr 1; funext a; congr 1; funext _
  cases cap with
  | none => rfl
  | some c =>
    show boolK (flagB c) _ _ = boolK (flagB c) _ _
    cases flagB c <;> rfl
theorem ev_slHi (size : Nat) : doSlice size x none (some a) cf t h k = slHiV size (oV x t) (oV a t) fun v => k v h := by
  unfold slHiV
  simp only [doSlice, oE_eq, boundK]
  congr 1
  funext id g off len fin cap
  congr 1; funext _ n; congr 1; funext a; congr 1; funext _
  cases cap with
  | none => rfl
  | some c =>
    show boolK (flagB c) _ _ = boolK (flagB c) _ _
    cases flagB c <;> rfl
end
/-- the part behind n of a row that is made -/
def tailV (id : B) (K n : Nat) : V := if n = K then .l id 0 0 0 K (some 0) else .l id 0 n (K - n) K (some (K - n))
theorem slLo_row {id : B} {K n : Nat} {kd : IntKind} (hKM : K < 18446744073709551616) (hn : n ≤ K) (k : V → Bool) : slLoV 1 (.l id 0 0 K K (some K)) (.i kd (n : Int)) k = k (tailV id K n) := by
  have e1 : Nat.ble n K = true := by rw [Nat.ble_eq]; exact hn
  have e2 : Nat.ble K K = true := by rw [Nat.ble_eq]; exact Nat.le_refl _
  unfold slLoV tailV
  simp only [vL_l, vI_i, natK_cast, e1, ifK_true]
  by_cases e : n = K
  · subst e
    rw [if_pos rfl]
    show boolK (flagB n) _ (fun _ => sliceC 1 id 0 0 n n n n n fun v => k v) = _
    rw [flagB_of hKM, boolK_false]
    have e0 : Nat.ble (Nat.succ n) 18446744073709551616 = true := by rw [Nat.ble_eq]; exact hKM
    have e3 : Nat.beq n n = true := Nat.beq_refl n
    unfold sliceC
    rw [e0, ifK_true, e2, ifK_true, e3]
    rfl
  · rw [if_neg e]
    show boolK (flagB K) _ (fun _ => sliceC 1 id 0 0 K K K n K fun v => k v) = _
    rw [flagB_of hKM, boolK_false, sliceC_mid hKM (Nat.le_refl _) (by omega), Nat.zero_add, Nat.mul_one]
theorem slHi_row {id : B} {K n : Nat} {kd : IntKind} (hKM : K < 18446744073709551616) (hn : n ≤ K) (hK : 0 < K) (k : V → Bool) : slHiV 1 (.l id 0 0 K K (some K)) (.i kd (n : Int)) k = k (.l id 0 0 n K (some K)) := by
  have e1 : Nat.ble 0 n = true := by rw [Nat.ble_eq]; exact Nat.zero_le _
  unfold slHiV
  simp only [vL_l, vI_i, natK_cast, e1, ifK_true]
  show boolK (flagB K) _ (fun _ => sliceC 1 id 0 0 K K K 0 n fun v => k v) = _
  rw [flagB_of hKM, boolK_false, sliceC_mid hKM hn hK]
  simp only [Nat.zero_mul, Nat.add_zero, Nat.sub_zero]
end Go.Ev
