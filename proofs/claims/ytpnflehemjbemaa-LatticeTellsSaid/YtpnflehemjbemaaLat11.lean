/- The function Order of package lattice, by what it computes. No condition. -/
import Derived.Test.YtpnflehemjbemaaLat10
import Derived.Test.YtpnflehemjbemaaEvV
set_option maxRecDepth 100000
set_option maxHeartbeats 8000000
set_option linter.all false
namespace Go.Proofs.Ytpnflehemjbemaa
open Go Go.Ev

/-- no level below q is below a and not yet placed -/
def freeB (M : Mt) (P : List Bool) (a q : Nat) : Bool := (List.range q).all fun b => !(at2 M a b && !(b == a) && !(P.getD b false))
theorem freeB_succ (M : Mt) (P : List Bool) (a q : Nat) : freeB M P a (q + 1) = (freeB M P a q && !(at2 M a q && !(q == a) && !(P.getD q false))) := by
  unfold freeB
  rw [List.range_succ, List.all_append]
  simp
theorem freeB_bad {M : Mt} {P : List Bool} {a q n : Nat} (h : at2 M a q = true) (h1 : q ≠ a) (h2 : P.getD q false = false) (hq : q < n) : freeB M P a n = false := by
  cases ht : freeB M P a n with
  | false => rfl
  | true =>
    unfold freeB at ht
    rw [List.all_eq_true] at ht
    have := ht q (by simpa using hq)
    rw [h, h2] at this
    simp at this
    exact absurd this h1
def readyB (M : Mt) (P : List Bool) (a : Nat) : Bool := !(P.getD a false) && freeB M P a M.length
def firstR (M : Mt) (P : List Bool) : Option Nat := (List.range M.length).find? (readyB M P)
theorem find_range (p : Nat → Bool) : ∀ (n a : Nat), a < n → (∀ i, i < a → p i = false) → p a = true → (List.range n).find? p = some a := by
  intro n
  induction n with
  | zero => intro a h; omega
  | succ n ih =>
    intro a h h1 h2
    rw [List.range_succ, List.find?_append]
    rcases Nat.lt_or_ge a n with h3 | h3
    · rw [ih a h3 h1 h2]; rfl
    · have : a = n := by omega
      subst this
      have : (List.range a).find? p = none := by
        rw [List.find?_eq_none]
        intro x hx
        rw [h1 x (by simpa using hx)]
        simp
      rw [this]
      simp [h2]
theorem firstR_some {M : Mt} {P : List Bool} {a : Nat} (h : a < M.length) (h1 : ∀ i, i < a → readyB M P i = false) (h2 : readyB M P a = true) : firstR M P = some a := find_range _ _ _ h h1 h2
theorem firstR_none {M : Mt} {P : List Bool} (h1 : ∀ i, i < M.length → readyB M P i = false) : firstR M P = none := by
  unfold firstR
  rw [List.find?_eq_none]
  intro x hx
  rw [h1 x (by simpa using hx)]
  simp
/-- after r rounds: what is ordered, what is placed -/
def ordN (M : Mt) : Nat → List Int × List Bool
  | 0 => ([], List.replicate (lvls M) false)
  | r + 1 => match firstR M (ordN M r).2 with
    | none => ordN M r
    | some a => ((ordN M r).1 ++ [(a : Int)], (ordN M r).2.set a true)
theorem ordN_none {M : Mt} {r : Nat} (h : firstR M (ordN M r).2 = none) : ordN M (r + 1) = ordN M r := by rw [ordN, h]
theorem ordN_some {M : Mt} {r a : Nat} (h : firstR M (ordN M r).2 = some a) : ordN M (r + 1) = ((ordN M r).1 ++ [(a : Int)], (ordN M r).2.set a true) := by rw [ordN, h]
theorem ordN_len (M : Mt) : ∀ r, (ordN M r).1.length ≤ r ∧ (ordN M r).2.length = lvls M := by
  intro r
  induction r with
  | zero => exact ⟨Nat.le_refl _, List.length_replicate ..⟩
  | succ r ih =>
    cases h : firstR M (ordN M r).2 with
    | none => rw [ordN_none h]; omega
    | some a => rw [ordN_some h]; simp; omega
def orderL (M : Mt) : List Int := (ordN M (lvls M)).1
theorem set_front {A : List V} {y z : V} {m : Nat} (h : 0 < m) : (A ++ List.replicate m z).set A.length y = (A ++ [y]) ++ List.replicate (m - 1) z := by
  obtain ⟨k, rfl⟩ : ∃ k, m = k + 1 := ⟨m - 1, by omega⟩
  rw [List.replicate_succ, List.set_append_right _ _ (Nat.le_refl _), Nat.sub_self, List.set_cons_zero]
  simp

theorem order_ok {h : H} {v : V} {M : Mt} (hM : Mx h v M) (hs : M.length ≤ 1000000) (hf : B.val h.floor ≤ B.val h.next) : FnOk Try.prog 28 [.a [v]] h fun y h' => Il h' y (orderL M) ∧ Stay nowhere h h' := by
  refine fn_run c28 (by intro hb; cases hb) (by simp) (by simp) ?_
  simp only [slotsF, Nat.reduceAdd]
  unfold b28
  obtain ⟨S1, hS1⟩ : ∃ S : Ev.Spec, S = fun f _ hh y h' => y = .i .i64 (lvls M : Nat) ∧ Stay nowhere hh h' := ⟨_, rfl⟩
  repeat (first
    | ((first | apply Ops.op | apply Ops.op0 | apply Drs.bar | apply Drs.pure); case e => (intro k; simp (disch := omega) only [evs, Nat.reduceEqDiff, Nat.reduceLT, reduceIte, cond_true, cond_false, Nat.reduceAdd]; rfl))
    | ((first | apply Ops.g1 | apply Drs.g1); case e => (simp (disch := omega) only [evs, Nat.reduceEqDiff, Nat.reduceLT, reduceIte]))
    | ((first | apply Ops.g0t | apply Ops.g0f | apply Drs.g0t | apply Drs.g0f); case e => (simp (disch := omega) only [evs, Nat.reduceEqDiff, Nat.reduceLT, reduceIte]))
    | ((first | apply Ops.g0u | apply Drs.g0u); case e => (simp (disch := omega) only [evs, Nat.reduceEqDiff, Nat.reduceLT, reduceIte]))
    | apply Ok.seq
    | apply Ok.block
    | (apply Ok.ops (S := Sp))
    | (apply Ok.condT; case e => (simp (disch := omega) only [evs, Nat.reduceEqDiff, Nat.reduceLT, reduceIte]))
    | (apply Ok.condF; case e => (simp (disch := omega) only [evs, Nat.reduceEqDiff, Nat.reduceLT, reduceIte]))
    | ((first | apply Ops.nil | apply Drs.nil | apply Ok.skip | apply Ok.exit | apply Ok.ret); try simp only [Then_n, Then_e, Then_r, Out_n, Out_e, Out_r, Nat.reduceEqDiff, reduceIte])
    | (apply Ok.drs (S := Sp) hmix)
    )
  apply Ops.box1
  case e => (simp (disch := omega) only [evs, Nat.reduceEqDiff, Nat.reduceLT, reduceIte, cond_true, cond_false, List.map_cons, List.map_nil, Nat.reduceAdd]; rfl)
  case k =>
  intro h1 id2 s1 hlt hge hrow
  have hM1 := hM.grow s1
  repeat (first
    | ((first | apply Ops.op | apply Ops.op0 | apply Drs.bar | apply Drs.pure); case e => (intro k; simp (disch := omega) only [evs, Nat.reduceEqDiff, Nat.reduceLT, reduceIte, cond_true, cond_false, Nat.reduceAdd, hrow.rdA]; rfl))
    | ((first | apply Ops.g1 | apply Drs.g1); case e => (simp (disch := omega) only [evs, Nat.reduceEqDiff, Nat.reduceLT, reduceIte, hrow.rdA]))
    | ((first | apply Ops.g0t | apply Ops.g0f | apply Drs.g0t | apply Drs.g0f); case e => (simp (disch := omega) only [evs, Nat.reduceEqDiff, Nat.reduceLT, reduceIte, hrow.rdA]))
    | ((first | apply Ops.g0u | apply Drs.g0u); case e => (simp (disch := omega) only [evs, Nat.reduceEqDiff, Nat.reduceLT, reduceIte, hrow.rdA]))
    | apply Ok.seq
    | apply Ok.block
    | (apply Ok.ops (S := S1))
    | (apply Ok.condT; case e => (simp (disch := omega) only [evs, Nat.reduceEqDiff, Nat.reduceLT, reduceIte, hrow.rdA]))
    | (apply Ok.condF; case e => (simp (disch := omega) only [evs, Nat.reduceEqDiff, Nat.reduceLT, reduceIte, hrow.rdA]))
    | ((first | apply Ops.nil | apply Drs.nil | apply Ok.skip | apply Ok.exit | apply Ok.ret); try simp only [Then_n, Then_e, Then_r, Out_n, Out_e, Out_r, Nat.reduceEqDiff, reduceIte])
    | (apply Ok.drs (S := S1) hmix)
    )
  apply Ops.call
  case e => (simp (disch := omega) only [evs, Nat.reduceEqDiff, Nat.reduceLT, reduceIte, cond_true, cond_false, List.map_cons, List.map_nil, Nat.reduceAdd]; rfl)
  case hf => rw [hS1]; exact levels_ok hM1 hs
  case k =>
  rw [hS1]
  rintro y h2 ⟨rfl, s2⟩
  clear hS1 S1
  have st := s1.trans s2
  have hrow2 := hrow.grow s2 hlt
  have hlt2 := Nat.lt_of_lt_of_le hlt s2.next
  have hM2 := hM1.grow s2
  have hln := lvls_le (M := M)
  have hrows := fun (a : Nat) (ha : a < lvls M) => lvls_rows ha
  have hlenN := ordN_len M
  have hout : orderL M = (ordN M (lvls M)).1 := rfl
  rw [hout]
  have hO0 : (ordN M 0).2 = List.replicate (lvls M) false := rfl
  have hO1 : (ordN M 0).1 = [] := rfl
  generalize hnn : lvls M = n at *
  repeat (first
    | ((first | apply Ops.op | apply Ops.op0 | apply Drs.bar | apply Drs.pure); case e => (intro k; simp (disch := omega) only [evs, Nat.reduceEqDiff, Nat.reduceLT, reduceIte, cond_true, cond_false, Nat.reduceAdd]; rfl))
    | ((first | apply Ops.g1 | apply Drs.g1); case e => (simp (disch := omega) only [evs, Nat.reduceEqDiff, Nat.reduceLT, reduceIte]))
    | ((first | apply Ops.g0t | apply Ops.g0f | apply Drs.g0t | apply Drs.g0f); case e => (simp (disch := omega) only [evs, Nat.reduceEqDiff, Nat.reduceLT, reduceIte]))
    | ((first | apply Ops.g0u | apply Drs.g0u); case e => (simp (disch := omega) only [evs, Nat.reduceEqDiff, Nat.reduceLT, reduceIte]))
    | apply Ok.seq
    | apply Ok.block
    | (apply Ok.ops (S := Sp))
    | (apply Ok.condT; case e => (simp (disch := omega) only [evs, Nat.reduceEqDiff, Nat.reduceLT, reduceIte]))
    | (apply Ok.condF; case e => (simp (disch := omega) only [evs, Nat.reduceEqDiff, Nat.reduceLT, reduceIte]))
    | ((first | apply Ops.nil | apply Drs.nil | apply Ok.skip | apply Ok.exit | apply Ok.ret); try simp only [Then_n, Then_e, Then_r, Out_n, Out_e, Out_r, Nat.reduceEqDiff, reduceIte])
    | (apply Ok.drs (S := Sp) hmix)
    )
  apply Ops.mkSlice (a := 0) (b := n) (kd := .i64) (kd' := .i64)
  case e1 => rfl
  case e2 => (simp (disch := omega) only [evs, Nat.reduceEqDiff, Nat.reduceLT, reduceIte, cond_true, cond_false, List.map_cons, List.map_nil, Nat.reduceAdd])
  case hab => omega
  case hb => omega
  case hf => exact st.fl hf
  case k =>
  intro h3 ido s3 e3 n3 o3
  repeat (first
    | ((first | apply Ops.op | apply Ops.op0 | apply Drs.bar | apply Drs.pure); case e => (intro k; simp (disch := omega) only [evs, Nat.reduceEqDiff, Nat.reduceLT, reduceIte, cond_true, cond_false, Nat.reduceAdd]; rfl))
    | ((first | apply Ops.g1 | apply Drs.g1); case e => (simp (disch := omega) only [evs, Nat.reduceEqDiff, Nat.reduceLT, reduceIte]))
    | ((first | apply Ops.g0t | apply Ops.g0f | apply Drs.g0t | apply Drs.g0f); case e => (simp (disch := omega) only [evs, Nat.reduceEqDiff, Nat.reduceLT, reduceIte]))
    | ((first | apply Ops.g0u | apply Drs.g0u); case e => (simp (disch := omega) only [evs, Nat.reduceEqDiff, Nat.reduceLT, reduceIte]))
    | apply Ok.seq
    | apply Ok.block
    | (apply Ok.ops (S := Sp))
    | (apply Ok.condT; case e => (simp (disch := omega) only [evs, Nat.reduceEqDiff, Nat.reduceLT, reduceIte]))
    | (apply Ok.condF; case e => (simp (disch := omega) only [evs, Nat.reduceEqDiff, Nat.reduceLT, reduceIte]))
    | ((first | apply Ops.nil | apply Drs.nil | apply Ok.skip | apply Ok.exit | apply Ok.ret); try simp only [Then_n, Then_e, Then_r, Out_n, Out_e, Out_r, Nat.reduceEqDiff, reduceIte])
    | (apply Ok.drs (S := Sp) hmix)
    )
  apply Ops.mkSlice (a := n) (b := n) (kd := .i64) (kd' := .i64)
  case e1 => (simp (disch := omega) only [evs, Nat.reduceEqDiff, Nat.reduceLT, reduceIte, cond_true, cond_false, List.map_cons, List.map_nil, Nat.reduceAdd])
  case e2 => (simp (disch := omega) only [evs, Nat.reduceEqDiff, Nat.reduceLT, reduceIte, cond_true, cond_false, List.map_cons, List.map_nil, Nat.reduceAdd])
  case hab => omega
  case hb => omega
  case hf => exact (st.trans s3).fl hf
  case k =>
  intro h4 idp s4 e4 n4 o4
  have hop : ido ≠ idp := by
    intro e
    rw [e3, e4] at e
    rw [e] at n3; omega
  have hne3 : B.val h2.next ≤ B.val ido := by rw [e3]; exact Nat.le_refl _
  have hne4 : B.val h2.next ≤ B.val idp := by rw [e4]; exact s3.next
  have o3' : Own h4 ido (List.replicate n (.i .i64 (Int.ofNat 0))) := o3.stay s4 fun h => h
  have s34 := s3.trans s4
  repeat (first
    | ((first | apply Ops.op | apply Ops.op0 | apply Drs.bar | apply Drs.pure); case e => (intro k; simp (disch := omega) only [evs, Nat.reduceEqDiff, Nat.reduceLT, reduceIte, cond_true, cond_false, Nat.reduceAdd]; rfl))
    | ((first | apply Ops.g1 | apply Drs.g1); case e => (simp (disch := omega) only [evs, Nat.reduceEqDiff, Nat.reduceLT, reduceIte]))
    | ((first | apply Ops.g0t | apply Ops.g0f | apply Drs.g0t | apply Drs.g0f); case e => (simp (disch := omega) only [evs, Nat.reduceEqDiff, Nat.reduceLT, reduceIte]))
    | ((first | apply Ops.g0u | apply Drs.g0u); case e => (simp (disch := omega) only [evs, Nat.reduceEqDiff, Nat.reduceLT, reduceIte]))
    | apply Ok.seq
    | apply Ok.block
    | (apply Ok.ops (S := Sp))
    | (apply Ok.condT; case e => (simp (disch := omega) only [evs, Nat.reduceEqDiff, Nat.reduceLT, reduceIte]))
    | (apply Ok.condF; case e => (simp (disch := omega) only [evs, Nat.reduceEqDiff, Nat.reduceLT, reduceIte]))
    | ((first | apply Ops.nil | apply Drs.nil | apply Ok.skip | apply Ok.exit | apply Ok.ret); try simp only [Then_n, Then_e, Then_r, Out_n, Out_e, Out_r, Nat.reduceEqDiff, reduceIte])
    | (apply Ok.drs (S := Sp) hmix)
    )
  refine Ok.loop (fun m t g => ∃ r : Nat, r ≤ n ∧ m = n - r ∧ Stay nowhere h2 g ∧ get 1 t = .p id2 0 0 1 ∧ get 4 t = .l ido 0 0 (ordN M r).1.length n (some n) ∧ get 5 t = .l idp 0 0 n n (some n) ∧ get 16 t = .i .i64 (n : Int) ∧ get 17 t = .i .i64 (r : Int) ∧
    Own g ido ((ordN M r).1.map (V.i .i64) ++ List.replicate (n - (ordN M r).1.length) (.i .i64 (Int.ofNat 0))) ∧ Own g idp ((ordN M r).2.map V.b)) ?_ n _ _ ?_
  · rintro m t g ⟨r, hr', rfl, sg, f1, f4, f5, f16, f17, oo, op⟩
    have hrowg := hrow2.grow sg hlt2
    have hMg := hM2.grow sg
    have fg := (st.trans sg).fl hf
    obtain ⟨hL, hP⟩ := hlenN r
    have hstep := fun (a : Nat) => @ordN_some M r a
    have hstep0 := @ordN_none M r
    unfold l28_0
    repeat (first
      | ((first | apply Ops.op | apply Ops.op0 | apply Drs.bar | apply Drs.pure); case e => (intro k; simp (disch := omega) only [evs, Nat.reduceEqDiff, Nat.reduceLT, reduceIte, cond_true, cond_false, Nat.reduceAdd, f1, f4, f5, f16, f17]; rfl))
      | ((first | apply Ops.g1 | apply Drs.g1); case e => (simp (disch := omega) only [evs, Nat.reduceEqDiff, Nat.reduceLT, reduceIte, f1, f4, f5, f16, f17]))
      | ((first | apply Ops.g0t | apply Ops.g0f | apply Drs.g0t | apply Drs.g0f); case e => (simp (disch := omega) only [evs, Nat.reduceEqDiff, Nat.reduceLT, reduceIte, f1, f4, f5, f16, f17]))
      | ((first | apply Ops.g0u | apply Drs.g0u); case e => (simp (disch := omega) only [evs, Nat.reduceEqDiff, Nat.reduceLT, reduceIte, f1, f4, f5, f16, f17]))
      | apply Ok.seq
      | apply Ok.block
      | (apply Ok.ops (S := Sp))
      | (apply Ok.condT; case e => (simp (disch := omega) only [evs, Nat.reduceEqDiff, Nat.reduceLT, reduceIte, f1, f4, f5, f16, f17]))
      | (apply Ok.condF; case e => (simp (disch := omega) only [evs, Nat.reduceEqDiff, Nat.reduceLT, reduceIte, f1, f4, f5, f16, f17]))
      | ((first | apply Ops.nil | apply Drs.nil | apply Ok.skip | apply Ok.exit | apply Ok.ret); try simp only [Then_n, Then_e, Then_r, Out_n, Out_e, Out_r, Nat.reduceEqDiff, reduceIte])
      | (apply Ok.drs (S := Sp) hmix)
      )
    apply Ok.cond
    case hq => (simp (disch := omega) only [evs, Nat.reduceEqDiff, Nat.reduceLT, reduceIte, cond_true, cond_false, List.map_cons, List.map_nil, Nat.reduceAdd, f16, f17]; rfl)
    case hb =>
      intro hc
      have hc := of_decide_eq_false hc
      have : r = n := by omega
      subst this
      repeat (first
        | ((first | apply Ops.op | apply Ops.op0 | apply Drs.bar | apply Drs.pure); case e => (intro k; simp (disch := omega) only [evs, Nat.reduceEqDiff, Nat.reduceLT, reduceIte, cond_true, cond_false, Nat.reduceAdd, f4]; rfl))
        | ((first | apply Ops.g1 | apply Drs.g1); case e => (simp (disch := omega) only [evs, Nat.reduceEqDiff, Nat.reduceLT, reduceIte, f4]))
        | ((first | apply Ops.g0t | apply Ops.g0f | apply Drs.g0t | apply Drs.g0f); case e => (simp (disch := omega) only [evs, Nat.reduceEqDiff, Nat.reduceLT, reduceIte, f4]))
        | ((first | apply Ops.g0u | apply Drs.g0u); case e => (simp (disch := omega) only [evs, Nat.reduceEqDiff, Nat.reduceLT, reduceIte, f4]))
        | apply Ok.seq
        | apply Ok.block
        | (apply Ok.ops (S := Sp))
        | (apply Ok.condT; case e => (simp (disch := omega) only [evs, Nat.reduceEqDiff, Nat.reduceLT, reduceIte, f4]))
        | (apply Ok.condF; case e => (simp (disch := omega) only [evs, Nat.reduceEqDiff, Nat.reduceLT, reduceIte, f4]))
        | ((first | apply Ops.nil | apply Drs.nil | apply Ok.skip | apply Ok.exit | apply Ok.ret); try simp only [Then_n, Then_e, Then_r, Out_n, Out_e, Out_r, Nat.reduceEqDiff, reduceIte])
        | (apply Ok.drs (S := Sp) hmix)
        )
      refine ⟨_, fun k => res_1 _ _ _ k, ?_⟩
      simp (disch := omega) only [evs, Nat.reduceEqDiff, Nat.reduceLT, reduceIte, cond_true, cond_false, List.map_cons, List.map_nil, Nat.reduceAdd, one_1]
      refine ⟨?_, st.trans sg⟩
      have := oo.front (fin := r) (by rw [List.length_map]; exact hL) (some r)
      rw [List.length_map] at this
      exact this
    case ha =>
      intro hc
      have hc := of_decide_eq_true hc
      obtain ⟨q1, q2, q3, q4⟩ := hrows r (by omega)
      generalize hPP : (ordN M r).2 = P at *
      generalize hLL : (ordN M r).1 = L at *
      repeat (first
        | ((first | apply Ops.op | apply Ops.op0 | apply Drs.bar | apply Drs.pure); case e => (intro k; simp (disch := omega) only [evs, Nat.reduceEqDiff, Nat.reduceLT, reduceIte, cond_true, cond_false, Nat.reduceAdd, f1, f4, f5, f16, f17, hrowg.rd1, hMg.len]; rfl))
        | ((first | apply Ops.g1 | apply Drs.g1); case e => (simp (disch := omega) only [evs, Nat.reduceEqDiff, Nat.reduceLT, reduceIte, f1, f4, f5, f16, f17, hrowg.rd1, hMg.len]))
        | ((first | apply Ops.g0t | apply Ops.g0f | apply Drs.g0t | apply Drs.g0f); case e => (simp (disch := omega) only [evs, Nat.reduceEqDiff, Nat.reduceLT, reduceIte, f1, f4, f5, f16, f17, hrowg.rd1, hMg.len]))
        | ((first | apply Ops.g0u | apply Drs.g0u); case e => (simp (disch := omega) only [evs, Nat.reduceEqDiff, Nat.reduceLT, reduceIte, f1, f4, f5, f16, f17, hrowg.rd1, hMg.len]))
        | apply Ok.seq
        | apply Ok.block
        | (apply Ok.ops (S := Sp))
        | (apply Ok.condT; case e => (simp (disch := omega) only [evs, Nat.reduceEqDiff, Nat.reduceLT, reduceIte, f1, f4, f5, f16, f17, hrowg.rd1, hMg.len]))
        | (apply Ok.condF; case e => (simp (disch := omega) only [evs, Nat.reduceEqDiff, Nat.reduceLT, reduceIte, f1, f4, f5, f16, f17, hrowg.rd1, hMg.len]))
        | ((first | apply Ops.nil | apply Drs.nil | apply Ok.skip | apply Ok.exit | apply Ok.ret); try simp only [Then_n, Then_e, Then_r, Out_n, Out_e, Out_r, Nat.reduceEqDiff, reduceIte])
        | (apply Ok.drs (S := Sp) hmix)
        )
      refine Ok.loop (fun m t g' => ∃ a : Nat, a ≤ n ∧ m = n - a ∧ g = g' ∧ get 1 t = .p id2 0 0 1 ∧ get 4 t = .l ido 0 0 L.length n (some n) ∧ get 5 t = .l idp 0 0 n n (some n) ∧ get 16 t = .i .i64 (n : Int) ∧ get 17 t = .i .i64 (r : Int) ∧
        get 20 t = v ∧ get 21 t = .i .i64 (M.length : Int) ∧ get 22 t = .i .i64 (a : Int) ∧ ∀ i, i < a → readyB M P i = false) ?_ n _ _ ?_
      · rintro m t _ ⟨a, ha, rfl, rfl, e1, e4, e5, e16, e17, e20, e21, e22, hF⟩
        unfold l28_1
        repeat (first
          | ((first | apply Ops.op | apply Ops.op0 | apply Drs.bar | apply Drs.pure); case e => (intro k; simp (disch := omega) only [evs, Nat.reduceEqDiff, Nat.reduceLT, reduceIte, cond_true, cond_false, Nat.reduceAdd, e1, e4, e5, e16, e17, e20, e21, e22]; rfl))
          | ((first | apply Ops.g1 | apply Drs.g1); case e => (simp (disch := omega) only [evs, Nat.reduceEqDiff, Nat.reduceLT, reduceIte, e1, e4, e5, e16, e17, e20, e21, e22]))
          | ((first | apply Ops.g0t | apply Ops.g0f | apply Drs.g0t | apply Drs.g0f); case e => (simp (disch := omega) only [evs, Nat.reduceEqDiff, Nat.reduceLT, reduceIte, e1, e4, e5, e16, e17, e20, e21, e22]))
          | ((first | apply Ops.g0u | apply Drs.g0u); case e => (simp (disch := omega) only [evs, Nat.reduceEqDiff, Nat.reduceLT, reduceIte, e1, e4, e5, e16, e17, e20, e21, e22]))
          | apply Ok.seq
          | apply Ok.block
          | (apply Ok.ops (S := Sp))
          | (apply Ok.condT; case e => (simp (disch := omega) only [evs, Nat.reduceEqDiff, Nat.reduceLT, reduceIte, e1, e4, e5, e16, e17, e20, e21, e22]))
          | (apply Ok.condF; case e => (simp (disch := omega) only [evs, Nat.reduceEqDiff, Nat.reduceLT, reduceIte, e1, e4, e5, e16, e17, e20, e21, e22]))
          | ((first | apply Ops.nil | apply Drs.nil | apply Ok.skip | apply Ok.exit | apply Ok.ret); try simp only [Then_n, Then_e, Then_r, Out_n, Out_e, Out_r, Nat.reduceEqDiff, reduceIte])
          | (apply Ok.drs (S := Sp) hmix)
          )
        apply Ok.cond
        case hq => (simp (disch := omega) only [evs, Nat.reduceEqDiff, Nat.reduceLT, reduceIte, cond_true, cond_false, List.map_cons, List.map_nil, Nat.reduceAdd, e21, e22]; rfl)
        case hb =>
          intro hc2
          have hc2 := of_decide_eq_false hc2
          have : a = n := by omega
          subst this
          have hno := hstep0 (firstR_none (by rw [q1]; exact hF))
          repeat (first
            | ((first | apply Ops.op | apply Ops.op0 | apply Drs.bar | apply Drs.pure); case e => (intro k; simp (disch := omega) only [evs, Nat.reduceEqDiff, Nat.reduceLT, reduceIte, cond_true, cond_false, Nat.reduceAdd, e1, e4, e5, e16, e17, e20, e21, e22]; rfl))
            | ((first | apply Ops.g1 | apply Drs.g1); case e => (simp (disch := omega) only [evs, Nat.reduceEqDiff, Nat.reduceLT, reduceIte, e1, e4, e5, e16, e17, e20, e21, e22]))
            | ((first | apply Ops.g0t | apply Ops.g0f | apply Drs.g0t | apply Drs.g0f); case e => (simp (disch := omega) only [evs, Nat.reduceEqDiff, Nat.reduceLT, reduceIte, e1, e4, e5, e16, e17, e20, e21, e22]))
            | ((first | apply Ops.g0u | apply Drs.g0u); case e => (simp (disch := omega) only [evs, Nat.reduceEqDiff, Nat.reduceLT, reduceIte, e1, e4, e5, e16, e17, e20, e21, e22]))
            | apply Ok.seq
            | apply Ok.block
            | (apply Ok.ops (S := Sp))
            | (apply Ok.condT; case e => (simp (disch := omega) only [evs, Nat.reduceEqDiff, Nat.reduceLT, reduceIte, e1, e4, e5, e16, e17, e20, e21, e22]))
            | (apply Ok.condF; case e => (simp (disch := omega) only [evs, Nat.reduceEqDiff, Nat.reduceLT, reduceIte, e1, e4, e5, e16, e17, e20, e21, e22]))
            | ((first | apply Ops.nil | apply Drs.nil | apply Ok.skip | apply Ok.exit | apply Ok.ret); try simp only [Then_n, Then_e, Then_r, Out_n, Out_e, Out_r, Nat.reduceEqDiff, reduceIte])
            | (apply Ok.drs (S := Sp) hmix)
            )
          refine ⟨a - (r + 1), by omega, r + 1, by omega, rfl, sg, by simp (disch := omega) only [evs, Nat.reduceEqDiff, Nat.reduceLT, reduceIte, cond_true, cond_false, List.map_cons, List.map_nil, Nat.reduceAdd, e1], ?_, by simp (disch := omega) only [evs, Nat.reduceEqDiff, Nat.reduceLT, reduceIte, cond_true, cond_false, List.map_cons, List.map_nil, Nat.reduceAdd, e5], by simp (disch := omega) only [evs, Nat.reduceEqDiff, Nat.reduceLT, reduceIte, cond_true, cond_false, List.map_cons, List.map_nil, Nat.reduceAdd, e16], by simp (disch := omega) only [evs, Nat.reduceEqDiff, Nat.reduceLT, reduceIte, cond_true, cond_false, List.map_cons, List.map_nil, Nat.reduceAdd, e17, Int.natCast_add, Int.natCast_one], ?_, ?_⟩
          · rw [hno, hLL]; simp (disch := omega) only [evs, Nat.reduceEqDiff, Nat.reduceLT, reduceIte, cond_true, cond_false, List.map_cons, List.map_nil, Nat.reduceAdd, e4]
          · rw [hno, hLL]; exact oo
          · rw [hno, hPP]; exact op
        case ha =>
          intro hc2
          have hc2 := of_decide_eq_true hc2
          obtain ⟨rv, hrv, hld⟩ := hMg.rd (i := a) (by omega)
          have hla := q4 a (by omega)
          have ix : ∀ k : V → Bool, idxV 1 (.l idp 0 0 n n (some n)) a k = k (.p idp 0 a n) := own_idx (by omega)
          have ld : ∀ k : V → Bool, load1 g idp 0 a n k = k (.b (P.getD a false)) := op.rdB (by omega) (by omega)
          cases hpa : P.getD a false
          · rw [hpa] at ld
            repeat (first
              | ((first | apply Ops.op | apply Ops.op0 | apply Drs.bar | apply Drs.pure); case e => (intro k; simp (disch := omega) only [evs, Nat.reduceEqDiff, Nat.reduceLT, reduceIte, cond_true, cond_false, Nat.reduceAdd, e1, e4, e5, e16, e17, e20, e21, e22, hMg.idx, hld, ix, ld, hrv.len, hla]; rfl))
              | ((first | apply Ops.g1 | apply Drs.g1); case e => (simp (disch := omega) only [evs, Nat.reduceEqDiff, Nat.reduceLT, reduceIte, e1, e4, e5, e16, e17, e20, e21, e22, hMg.idx, hld, ix, ld, hrv.len, hla]))
              | ((first | apply Ops.g0t | apply Ops.g0f | apply Drs.g0t | apply Drs.g0f); case e => (simp (disch := omega) only [evs, Nat.reduceEqDiff, Nat.reduceLT, reduceIte, e1, e4, e5, e16, e17, e20, e21, e22, hMg.idx, hld, ix, ld, hrv.len, hla]))
              | ((first | apply Ops.g0u | apply Drs.g0u); case e => (simp (disch := omega) only [evs, Nat.reduceEqDiff, Nat.reduceLT, reduceIte, e1, e4, e5, e16, e17, e20, e21, e22, hMg.idx, hld, ix, ld, hrv.len, hla]))
              | apply Ok.seq
              | apply Ok.block
              | (apply Ok.ops (S := Sp))
              | (apply Ok.condT; case e => (simp (disch := omega) only [evs, Nat.reduceEqDiff, Nat.reduceLT, reduceIte, e1, e4, e5, e16, e17, e20, e21, e22, hMg.idx, hld, ix, ld, hrv.len, hla]))
              | (apply Ok.condF; case e => (simp (disch := omega) only [evs, Nat.reduceEqDiff, Nat.reduceLT, reduceIte, e1, e4, e5, e16, e17, e20, e21, e22, hMg.idx, hld, ix, ld, hrv.len, hla]))
              | ((first | apply Ops.nil | apply Drs.nil | apply Ok.skip | apply Ok.exit | apply Ok.ret); try simp only [Then_n, Then_e, Then_r, Out_n, Out_e, Out_r, Nat.reduceEqDiff, reduceIte])
              | (apply Ok.drs (S := Sp) hmix)
              )
            refine Ok.loop (fun m t g' => ∃ b : Nat, b ≤ n ∧ m = n - b ∧ g = g' ∧ get 1 t = .p id2 0 0 1 ∧ get 4 t = .l ido 0 0 L.length n (some n) ∧ get 5 t = .l idp 0 0 n n (some n) ∧ get 6 t = .i .i64 (a : Int) ∧ get 16 t = .i .i64 (n : Int) ∧ get 17 t = .i .i64 (r : Int) ∧
              get 20 t = v ∧ get 21 t = .i .i64 (M.length : Int) ∧ get 22 t = .i .i64 (a : Int) ∧ get 31 t = rv ∧ get 32 t = .i .i64 (M.length : Int) ∧ get 33 t = .i .i64 (b : Int) ∧ freeB M P a b = true) ?_ n _ _ ?_
            · rintro m t _ ⟨b, hb, rfl, rfl, g1, g4, g5, g6, g16, g17, g20, g21, g22, g31, g32, g33, hT⟩
              unfold l28_2
              repeat (first
                | ((first | apply Ops.op | apply Ops.op0 | apply Drs.bar | apply Drs.pure); case e => (intro k; simp (disch := omega) only [evs, Nat.reduceEqDiff, Nat.reduceLT, reduceIte, cond_true, cond_false, Nat.reduceAdd, g1, g4, g5, g6, g16, g17, g20, g21, g22, g31, g32, g33]; rfl))
                | ((first | apply Ops.g1 | apply Drs.g1); case e => (simp (disch := omega) only [evs, Nat.reduceEqDiff, Nat.reduceLT, reduceIte, g1, g4, g5, g6, g16, g17, g20, g21, g22, g31, g32, g33]))
                | ((first | apply Ops.g0t | apply Ops.g0f | apply Drs.g0t | apply Drs.g0f); case e => (simp (disch := omega) only [evs, Nat.reduceEqDiff, Nat.reduceLT, reduceIte, g1, g4, g5, g6, g16, g17, g20, g21, g22, g31, g32, g33]))
                | ((first | apply Ops.g0u | apply Drs.g0u); case e => (simp (disch := omega) only [evs, Nat.reduceEqDiff, Nat.reduceLT, reduceIte, g1, g4, g5, g6, g16, g17, g20, g21, g22, g31, g32, g33]))
                | apply Ok.seq
                | apply Ok.block
                | (apply Ok.ops (S := Sp))
                | (apply Ok.condT; case e => (simp (disch := omega) only [evs, Nat.reduceEqDiff, Nat.reduceLT, reduceIte, g1, g4, g5, g6, g16, g17, g20, g21, g22, g31, g32, g33]))
                | (apply Ok.condF; case e => (simp (disch := omega) only [evs, Nat.reduceEqDiff, Nat.reduceLT, reduceIte, g1, g4, g5, g6, g16, g17, g20, g21, g22, g31, g32, g33]))
                | ((first | apply Ops.nil | apply Drs.nil | apply Ok.skip | apply Ok.exit | apply Ok.ret); try simp only [Then_n, Then_e, Then_r, Out_n, Out_e, Out_r, Nat.reduceEqDiff, reduceIte])
                | (apply Ok.drs (S := Sp) hmix)
                )
              apply Ok.cond
              case hq => (simp (disch := omega) only [evs, Nat.reduceEqDiff, Nat.reduceLT, reduceIte, cond_true, cond_false, List.map_cons, List.map_nil, Nat.reduceAdd, g32, g33]; rfl)
              case hb =>
                intro hc3
                have hc3 := of_decide_eq_false hc3
                have : b = n := by omega
                subst this
                have hrd : readyB M P a = true := by unfold readyB; rw [hpa, q1, hT]; rfl
                have hyes := hstep a (firstR_some (by omega) hF hrd)
                repeat (first
                  | ((first | apply Ops.op | apply Ops.op0 | apply Drs.bar | apply Drs.pure); case e => (intro k; simp (disch := omega) only [evs, Nat.reduceEqDiff, Nat.reduceLT, reduceIte, cond_true, cond_false, Nat.reduceAdd, g1, g4, g5, g6, g16, g17, g20, g21, g22, ix]; rfl))
                  | ((first | apply Ops.g1 | apply Drs.g1); case e => (simp (disch := omega) only [evs, Nat.reduceEqDiff, Nat.reduceLT, reduceIte, g1, g4, g5, g6, g16, g17, g20, g21, g22, ix]))
                  | ((first | apply Ops.g0t | apply Ops.g0f | apply Drs.g0t | apply Drs.g0f); case e => (simp (disch := omega) only [evs, Nat.reduceEqDiff, Nat.reduceLT, reduceIte, g1, g4, g5, g6, g16, g17, g20, g21, g22, ix]))
                  | ((first | apply Ops.g0u | apply Drs.g0u); case e => (simp (disch := omega) only [evs, Nat.reduceEqDiff, Nat.reduceLT, reduceIte, g1, g4, g5, g6, g16, g17, g20, g21, g22, ix]))
                  | apply Ok.seq
                  | apply Ok.block
                  | (apply Ok.ops (S := Sp))
                  | (apply Ok.condT; case e => (simp (disch := omega) only [evs, Nat.reduceEqDiff, Nat.reduceLT, reduceIte, g1, g4, g5, g6, g16, g17, g20, g21, g22, ix]))
                  | (apply Ok.condF; case e => (simp (disch := omega) only [evs, Nat.reduceEqDiff, Nat.reduceLT, reduceIte, g1, g4, g5, g6, g16, g17, g20, g21, g22, ix]))
                  | ((first | apply Ops.nil | apply Drs.nil | apply Ok.skip | apply Ok.exit | apply Ok.ret); try simp only [Then_n, Then_e, Then_r, Out_n, Out_e, Out_r, Nat.reduceEqDiff, reduceIte])
                  | (apply Ok.drs (S := Sp) hmix)
                  )
                apply Ops.store
                case e1 => (simp (disch := omega) only [evs, Nat.reduceEqDiff, Nat.reduceLT, reduceIte, cond_true, cond_false, List.map_cons, List.map_nil, Nat.reduceAdd]; rfl)
                case e2 => rfl
                case ho => exact op
                case hj => omega
                case hfit => omega
                case h1 => rfl
                case k =>
                intro h5 op5 s5
                have oo5 := oo.stay s5 hop
                have sg5 := sg.past' s5 fun i hi => by rw [hi]; exact hne4
                repeat (first
                  | ((first | apply Ops.op | apply Ops.op0 | apply Drs.bar | apply Drs.pure); case e => (intro k; simp (disch := omega) only [evs, Nat.reduceEqDiff, Nat.reduceLT, reduceIte, cond_true, cond_false, Nat.reduceAdd, g1, g4, g5, g6, g16, g17]; rfl))
                  | ((first | apply Ops.g1 | apply Drs.g1); case e => (simp (disch := omega) only [evs, Nat.reduceEqDiff, Nat.reduceLT, reduceIte, g1, g4, g5, g6, g16, g17]))
                  | ((first | apply Ops.g0t | apply Ops.g0f | apply Drs.g0t | apply Drs.g0f); case e => (simp (disch := omega) only [evs, Nat.reduceEqDiff, Nat.reduceLT, reduceIte, g1, g4, g5, g6, g16, g17]))
                  | ((first | apply Ops.g0u | apply Drs.g0u); case e => (simp (disch := omega) only [evs, Nat.reduceEqDiff, Nat.reduceLT, reduceIte, g1, g4, g5, g6, g16, g17]))
                  | apply Ok.seq
                  | apply Ok.block
                  | (apply Ok.ops (S := Sp))
                  | (apply Ok.condT; case e => (simp (disch := omega) only [evs, Nat.reduceEqDiff, Nat.reduceLT, reduceIte, g1, g4, g5, g6, g16, g17]))
                  | (apply Ok.condF; case e => (simp (disch := omega) only [evs, Nat.reduceEqDiff, Nat.reduceLT, reduceIte, g1, g4, g5, g6, g16, g17]))
                  | ((first | apply Ops.nil | apply Drs.nil | apply Ok.skip | apply Ok.exit | apply Ok.ret); try simp only [Then_n, Then_e, Then_r, Out_n, Out_e, Out_r, Nat.reduceEqDiff, reduceIte])
                  | (apply Ok.drs (S := Sp) hmix)
                  )
                apply Ops.pushIn (id := ido) (y := .i .i64 (a : Int)) (c := b) (len := L.length) (fin := b)
                case e1 => (simp (disch := omega) only [evs, Nat.reduceEqDiff, Nat.reduceLT, reduceIte, cond_true, cond_false, List.map_cons, List.map_nil, Nat.reduceAdd, g4])
                case e2 => (simp (disch := omega) only [evs, Nat.reduceEqDiff, Nat.reduceLT, reduceIte, cond_true, cond_false, List.map_cons, List.map_nil, Nat.reduceAdd, g6])
                case hk => rfl
                case hc => rfl
                case h1 => rfl
                case a => exact oo5
                case hf => exact (st.trans sg5).fl hf
                case hl => omega
                case hj => omega
                case hfit => omega
                case hm => decide
                case e3 => intro u; simp (disch := omega) only [evs, Nat.reduceEqDiff, Nat.reduceLT, reduceIte, cond_true, cond_false, List.map_cons, List.map_nil, Nat.reduceAdd, g4]
                case k =>
                intro h6 u o6 s6
                have op6 := op5.stay s6 hop.symm
                have sg6 := sg5.past' s6 fun i hi => by rw [hi]; exact hne3
                repeat (first
                  | ((first | apply Ops.op | apply Ops.op0 | apply Drs.bar | apply Drs.pure); case e => (intro k; simp (disch := omega) only [evs, Nat.reduceEqDiff, Nat.reduceLT, reduceIte, cond_true, cond_false, Nat.reduceAdd, g1, g4, g5, g6, g16, g17]; rfl))
                  | ((first | apply Ops.g1 | apply Drs.g1); case e => (simp (disch := omega) only [evs, Nat.reduceEqDiff, Nat.reduceLT, reduceIte, g1, g4, g5, g6, g16, g17]))
                  | ((first | apply Ops.g0t | apply Ops.g0f | apply Drs.g0t | apply Drs.g0f); case e => (simp (disch := omega) only [evs, Nat.reduceEqDiff, Nat.reduceLT, reduceIte, g1, g4, g5, g6, g16, g17]))
                  | ((first | apply Ops.g0u | apply Drs.g0u); case e => (simp (disch := omega) only [evs, Nat.reduceEqDiff, Nat.reduceLT, reduceIte, g1, g4, g5, g6, g16, g17]))
                  | apply Ok.seq
                  | apply Ok.block
                  | (apply Ok.ops (S := Sp))
                  | (apply Ok.condT; case e => (simp (disch := omega) only [evs, Nat.reduceEqDiff, Nat.reduceLT, reduceIte, g1, g4, g5, g6, g16, g17]))
                  | (apply Ok.condF; case e => (simp (disch := omega) only [evs, Nat.reduceEqDiff, Nat.reduceLT, reduceIte, g1, g4, g5, g6, g16, g17]))
                  | ((first | apply Ops.nil | apply Drs.nil | apply Ok.skip | apply Ok.exit | apply Ok.ret); try simp only [Then_n, Then_e, Then_r, Out_n, Out_e, Out_r, Nat.reduceEqDiff, reduceIte])
                  | (apply Ok.drs (S := Sp) hmix)
                  )
                refine ⟨b - (r + 1), by omega, r + 1, by omega, rfl, sg6, by simp (disch := omega) only [evs, Nat.reduceEqDiff, Nat.reduceLT, reduceIte, cond_true, cond_false, List.map_cons, List.map_nil, Nat.reduceAdd, g1], ?_, by simp (disch := omega) only [evs, Nat.reduceEqDiff, Nat.reduceLT, reduceIte, cond_true, cond_false, List.map_cons, List.map_nil, Nat.reduceAdd, g5], by simp (disch := omega) only [evs, Nat.reduceEqDiff, Nat.reduceLT, reduceIte, cond_true, cond_false, List.map_cons, List.map_nil, Nat.reduceAdd, g16], by simp (disch := omega) only [evs, Nat.reduceEqDiff, Nat.reduceLT, reduceIte, cond_true, cond_false, List.map_cons, List.map_nil, Nat.reduceAdd, g17, Int.natCast_add, Int.natCast_one], ?_, ?_⟩
                · rw [hyes, List.length_append]; simp (disch := omega) only [evs, Nat.reduceEqDiff, Nat.reduceLT, reduceIte, cond_true, cond_false, List.map_cons, List.map_nil, Nat.reduceAdd]; rfl
                · rw [hyes]
                  have hsf := set_front (A := L.map (V.i .i64)) (y := .i .i64 (a : Int)) (z := .i .i64 (Int.ofNat 0)) (m := b - L.length) (by omega)
                  rw [List.length_map] at hsf
                  rw [hsf] at o6
                  rw [List.map_append, List.length_append]
                  exact o6
                · rw [hyes]
                  rw [show (P.set a true).map V.b = (P.map V.b).set a (.b true) from List.map_set ..]
                  exact op6
              case ha =>
                intro hc3
                have hc3 := of_decide_eq_true hc3
                have jx : ∀ k : V → Bool, idxV 1 (.l idp 0 0 n n (some n)) b k = k (.p idp 0 b n) := own_idx (by omega)
                have jd : ∀ k : V → Bool, load1 g idp 0 b n k = k (.b (P.getD b false)) := op.rdB (by omega) (by omega)
                cases hx : (M.getD a []).getD b false
                · repeat (first
                    | ((first | apply Ops.op | apply Ops.op0 | apply Drs.bar | apply Drs.pure); case e => (intro k; simp (disch := omega) only [evs, Nat.reduceEqDiff, Nat.reduceLT, reduceIte, cond_true, cond_false, Nat.reduceAdd, g1, g4, g5, g6, g16, g17, g20, g21, g22, g31, g32, g33, hrv.idx, hrv.rd, hx, hla]; rfl))
                    | ((first | apply Ops.g1 | apply Drs.g1); case e => (simp (disch := omega) only [evs, Nat.reduceEqDiff, Nat.reduceLT, reduceIte, g1, g4, g5, g6, g16, g17, g20, g21, g22, g31, g32, g33, hrv.idx, hrv.rd, hx, hla]))
                    | ((first | apply Ops.g0t | apply Ops.g0f | apply Drs.g0t | apply Drs.g0f); case e => (simp (disch := omega) only [evs, Nat.reduceEqDiff, Nat.reduceLT, reduceIte, g1, g4, g5, g6, g16, g17, g20, g21, g22, g31, g32, g33, hrv.idx, hrv.rd, hx, hla]))
                    | ((first | apply Ops.g0u | apply Drs.g0u); case e => (simp (disch := omega) only [evs, Nat.reduceEqDiff, Nat.reduceLT, reduceIte, g1, g4, g5, g6, g16, g17, g20, g21, g22, g31, g32, g33, hrv.idx, hrv.rd, hx, hla]))
                    | apply Ok.seq
                    | apply Ok.block
                    | (apply Ok.ops (S := Sp))
                    | (apply Ok.condT; case e => (simp (disch := omega) only [evs, Nat.reduceEqDiff, Nat.reduceLT, reduceIte, g1, g4, g5, g6, g16, g17, g20, g21, g22, g31, g32, g33, hrv.idx, hrv.rd, hx, hla]))
                    | (apply Ok.condF; case e => (simp (disch := omega) only [evs, Nat.reduceEqDiff, Nat.reduceLT, reduceIte, g1, g4, g5, g6, g16, g17, g20, g21, g22, g31, g32, g33, hrv.idx, hrv.rd, hx, hla]))
                    | ((first | apply Ops.nil | apply Drs.nil | apply Ok.skip | apply Ok.exit | apply Ok.ret); try simp only [Then_n, Then_e, Then_r, Out_n, Out_e, Out_r, Nat.reduceEqDiff, reduceIte])
                    | (apply Ok.drs (S := Sp) hmix)
                    )
                  refine ⟨n - (b + 1), by omega, b + 1, by omega, rfl, by trivial, by simp (disch := omega) only [evs, Nat.reduceEqDiff, Nat.reduceLT, reduceIte, cond_true, cond_false, List.map_cons, List.map_nil, Nat.reduceAdd, g1], by simp (disch := omega) only [evs, Nat.reduceEqDiff, Nat.reduceLT, reduceIte, cond_true, cond_false, List.map_cons, List.map_nil, Nat.reduceAdd, g4], by simp (disch := omega) only [evs, Nat.reduceEqDiff, Nat.reduceLT, reduceIte, cond_true, cond_false, List.map_cons, List.map_nil, Nat.reduceAdd, g5], by simp (disch := omega) only [evs, Nat.reduceEqDiff, Nat.reduceLT, reduceIte, cond_true, cond_false, List.map_cons, List.map_nil, Nat.reduceAdd, g6], by simp (disch := omega) only [evs, Nat.reduceEqDiff, Nat.reduceLT, reduceIte, cond_true, cond_false, List.map_cons, List.map_nil, Nat.reduceAdd, g16], by simp (disch := omega) only [evs, Nat.reduceEqDiff, Nat.reduceLT, reduceIte, cond_true, cond_false, List.map_cons, List.map_nil, Nat.reduceAdd, g17], by simp (disch := omega) only [evs, Nat.reduceEqDiff, Nat.reduceLT, reduceIte, cond_true, cond_false, List.map_cons, List.map_nil, Nat.reduceAdd, g20], by simp (disch := omega) only [evs, Nat.reduceEqDiff, Nat.reduceLT, reduceIte, cond_true, cond_false, List.map_cons, List.map_nil, Nat.reduceAdd, g21], by simp (disch := omega) only [evs, Nat.reduceEqDiff, Nat.reduceLT, reduceIte, cond_true, cond_false, List.map_cons, List.map_nil, Nat.reduceAdd, g22], by simp (disch := omega) only [evs, Nat.reduceEqDiff, Nat.reduceLT, reduceIte, cond_true, cond_false, List.map_cons, List.map_nil, Nat.reduceAdd, g31], by simp (disch := omega) only [evs, Nat.reduceEqDiff, Nat.reduceLT, reduceIte, cond_true, cond_false, List.map_cons, List.map_nil, Nat.reduceAdd, g32], by simp (disch := omega) only [evs, Nat.reduceEqDiff, Nat.reduceLT, reduceIte, cond_true, cond_false, List.map_cons, List.map_nil, Nat.reduceAdd, g33, Int.natCast_add, Int.natCast_one], ?_⟩
                  rw [freeB_succ, hT]; unfold at2; rw [hx]; rfl
                · by_cases hba : b = a
                  · have d : decide ((b : Int) = (a : Int)) = true := decide_eq_true (by omega)
                    repeat (first
                      | ((first | apply Ops.op | apply Ops.op0 | apply Drs.bar | apply Drs.pure); case e => (intro k; simp (disch := omega) only [evs, Nat.reduceEqDiff, Nat.reduceLT, reduceIte, cond_true, cond_false, Nat.reduceAdd, g1, g4, g5, g6, g16, g17, g20, g21, g22, g31, g32, g33, hrv.idx, hrv.rd, hx, hla, d]; rfl))
                      | ((first | apply Ops.g1 | apply Drs.g1); case e => (simp (disch := omega) only [evs, Nat.reduceEqDiff, Nat.reduceLT, reduceIte, g1, g4, g5, g6, g16, g17, g20, g21, g22, g31, g32, g33, hrv.idx, hrv.rd, hx, hla, d]))
                      | ((first | apply Ops.g0t | apply Ops.g0f | apply Drs.g0t | apply Drs.g0f); case e => (simp (disch := omega) only [evs, Nat.reduceEqDiff, Nat.reduceLT, reduceIte, g1, g4, g5, g6, g16, g17, g20, g21, g22, g31, g32, g33, hrv.idx, hrv.rd, hx, hla, d]))
                      | ((first | apply Ops.g0u | apply Drs.g0u); case e => (simp (disch := omega) only [evs, Nat.reduceEqDiff, Nat.reduceLT, reduceIte, g1, g4, g5, g6, g16, g17, g20, g21, g22, g31, g32, g33, hrv.idx, hrv.rd, hx, hla, d]))
                      | apply Ok.seq
                      | apply Ok.block
                      | (apply Ok.ops (S := Sp))
                      | (apply Ok.condT; case e => (simp (disch := omega) only [evs, Nat.reduceEqDiff, Nat.reduceLT, reduceIte, g1, g4, g5, g6, g16, g17, g20, g21, g22, g31, g32, g33, hrv.idx, hrv.rd, hx, hla, d]))
                      | (apply Ok.condF; case e => (simp (disch := omega) only [evs, Nat.reduceEqDiff, Nat.reduceLT, reduceIte, g1, g4, g5, g6, g16, g17, g20, g21, g22, g31, g32, g33, hrv.idx, hrv.rd, hx, hla, d]))
                      | ((first | apply Ops.nil | apply Drs.nil | apply Ok.skip | apply Ok.exit | apply Ok.ret); try simp only [Then_n, Then_e, Then_r, Out_n, Out_e, Out_r, Nat.reduceEqDiff, reduceIte])
                      | (apply Ok.drs (S := Sp) hmix)
                      )
                    refine ⟨n - (b + 1), by omega, b + 1, by omega, rfl, by trivial, by simp (disch := omega) only [evs, Nat.reduceEqDiff, Nat.reduceLT, reduceIte, cond_true, cond_false, List.map_cons, List.map_nil, Nat.reduceAdd, g1], by simp (disch := omega) only [evs, Nat.reduceEqDiff, Nat.reduceLT, reduceIte, cond_true, cond_false, List.map_cons, List.map_nil, Nat.reduceAdd, g4], by simp (disch := omega) only [evs, Nat.reduceEqDiff, Nat.reduceLT, reduceIte, cond_true, cond_false, List.map_cons, List.map_nil, Nat.reduceAdd, g5], by simp (disch := omega) only [evs, Nat.reduceEqDiff, Nat.reduceLT, reduceIte, cond_true, cond_false, List.map_cons, List.map_nil, Nat.reduceAdd, g6], by simp (disch := omega) only [evs, Nat.reduceEqDiff, Nat.reduceLT, reduceIte, cond_true, cond_false, List.map_cons, List.map_nil, Nat.reduceAdd, g16], by simp (disch := omega) only [evs, Nat.reduceEqDiff, Nat.reduceLT, reduceIte, cond_true, cond_false, List.map_cons, List.map_nil, Nat.reduceAdd, g17], by simp (disch := omega) only [evs, Nat.reduceEqDiff, Nat.reduceLT, reduceIte, cond_true, cond_false, List.map_cons, List.map_nil, Nat.reduceAdd, g20], by simp (disch := omega) only [evs, Nat.reduceEqDiff, Nat.reduceLT, reduceIte, cond_true, cond_false, List.map_cons, List.map_nil, Nat.reduceAdd, g21], by simp (disch := omega) only [evs, Nat.reduceEqDiff, Nat.reduceLT, reduceIte, cond_true, cond_false, List.map_cons, List.map_nil, Nat.reduceAdd, g22], by simp (disch := omega) only [evs, Nat.reduceEqDiff, Nat.reduceLT, reduceIte, cond_true, cond_false, List.map_cons, List.map_nil, Nat.reduceAdd, g31], by simp (disch := omega) only [evs, Nat.reduceEqDiff, Nat.reduceLT, reduceIte, cond_true, cond_false, List.map_cons, List.map_nil, Nat.reduceAdd, g32], by simp (disch := omega) only [evs, Nat.reduceEqDiff, Nat.reduceLT, reduceIte, cond_true, cond_false, List.map_cons, List.map_nil, Nat.reduceAdd, g33, Int.natCast_add, Int.natCast_one], ?_⟩
                    rw [freeB_succ, hT]; simp [hba]
                  · have d : decide ((b : Int) = (a : Int)) = false := decide_eq_false (by omega)
                    cases hpb : P.getD b false
                    · rw [hpb] at jd
                      repeat (first
                        | ((first | apply Ops.op | apply Ops.op0 | apply Drs.bar | apply Drs.pure); case e => (intro k; simp (disch := omega) only [evs, Nat.reduceEqDiff, Nat.reduceLT, reduceIte, cond_true, cond_false, Nat.reduceAdd, g1, g4, g5, g6, g16, g17, g20, g21, g22, g31, g32, g33, hrv.idx, hrv.rd, hx, hla, d, jx, jd]; rfl))
                        | ((first | apply Ops.g1 | apply Drs.g1); case e => (simp (disch := omega) only [evs, Nat.reduceEqDiff, Nat.reduceLT, reduceIte, g1, g4, g5, g6, g16, g17, g20, g21, g22, g31, g32, g33, hrv.idx, hrv.rd, hx, hla, d, jx, jd]))
                        | ((first | apply Ops.g0t | apply Ops.g0f | apply Drs.g0t | apply Drs.g0f); case e => (simp (disch := omega) only [evs, Nat.reduceEqDiff, Nat.reduceLT, reduceIte, g1, g4, g5, g6, g16, g17, g20, g21, g22, g31, g32, g33, hrv.idx, hrv.rd, hx, hla, d, jx, jd]))
                        | ((first | apply Ops.g0u | apply Drs.g0u); case e => (simp (disch := omega) only [evs, Nat.reduceEqDiff, Nat.reduceLT, reduceIte, g1, g4, g5, g6, g16, g17, g20, g21, g22, g31, g32, g33, hrv.idx, hrv.rd, hx, hla, d, jx, jd]))
                        | apply Ok.seq
                        | apply Ok.block
                        | (apply Ok.ops (S := Sp))
                        | (apply Ok.condT; case e => (simp (disch := omega) only [evs, Nat.reduceEqDiff, Nat.reduceLT, reduceIte, g1, g4, g5, g6, g16, g17, g20, g21, g22, g31, g32, g33, hrv.idx, hrv.rd, hx, hla, d, jx, jd]))
                        | (apply Ok.condF; case e => (simp (disch := omega) only [evs, Nat.reduceEqDiff, Nat.reduceLT, reduceIte, g1, g4, g5, g6, g16, g17, g20, g21, g22, g31, g32, g33, hrv.idx, hrv.rd, hx, hla, d, jx, jd]))
                        | ((first | apply Ops.nil | apply Drs.nil | apply Ok.skip | apply Ok.exit | apply Ok.ret); try simp only [Then_n, Then_e, Then_r, Out_n, Out_e, Out_r, Nat.reduceEqDiff, reduceIte])
                        | (apply Ok.drs (S := Sp) hmix)
                        )
                      refine ⟨n - (a + 1), by omega, a + 1, by omega, rfl, by trivial, by simp (disch := omega) only [evs, Nat.reduceEqDiff, Nat.reduceLT, reduceIte, cond_true, cond_false, List.map_cons, List.map_nil, Nat.reduceAdd, g1], by simp (disch := omega) only [evs, Nat.reduceEqDiff, Nat.reduceLT, reduceIte, cond_true, cond_false, List.map_cons, List.map_nil, Nat.reduceAdd, g4], by simp (disch := omega) only [evs, Nat.reduceEqDiff, Nat.reduceLT, reduceIte, cond_true, cond_false, List.map_cons, List.map_nil, Nat.reduceAdd, g5], by simp (disch := omega) only [evs, Nat.reduceEqDiff, Nat.reduceLT, reduceIte, cond_true, cond_false, List.map_cons, List.map_nil, Nat.reduceAdd, g16], by simp (disch := omega) only [evs, Nat.reduceEqDiff, Nat.reduceLT, reduceIte, cond_true, cond_false, List.map_cons, List.map_nil, Nat.reduceAdd, g17], by simp (disch := omega) only [evs, Nat.reduceEqDiff, Nat.reduceLT, reduceIte, cond_true, cond_false, List.map_cons, List.map_nil, Nat.reduceAdd, g20], by simp (disch := omega) only [evs, Nat.reduceEqDiff, Nat.reduceLT, reduceIte, cond_true, cond_false, List.map_cons, List.map_nil, Nat.reduceAdd, g21], by simp (disch := omega) only [evs, Nat.reduceEqDiff, Nat.reduceLT, reduceIte, cond_true, cond_false, List.map_cons, List.map_nil, Nat.reduceAdd, g22, Int.natCast_add, Int.natCast_one], ?_⟩
                      intro i hi
                      rcases Nat.lt_or_ge i a with h7 | h7
                      · exact hF i h7
                      · have : i = a := by omega
                        subst this
                        unfold readyB
                        rw [freeB_bad (q := b) hx hba hpb (by omega), Bool.and_false]
                    · rw [hpb] at jd
                      repeat (first
                        | ((first | apply Ops.op | apply Ops.op0 | apply Drs.bar | apply Drs.pure); case e => (intro k; simp (disch := omega) only [evs, Nat.reduceEqDiff, Nat.reduceLT, reduceIte, cond_true, cond_false, Nat.reduceAdd, g1, g4, g5, g6, g16, g17, g20, g21, g22, g31, g32, g33, hrv.idx, hrv.rd, hx, hla, d, jx, jd]; rfl))
                        | ((first | apply Ops.g1 | apply Drs.g1); case e => (simp (disch := omega) only [evs, Nat.reduceEqDiff, Nat.reduceLT, reduceIte, g1, g4, g5, g6, g16, g17, g20, g21, g22, g31, g32, g33, hrv.idx, hrv.rd, hx, hla, d, jx, jd]))
                        | ((first | apply Ops.g0t | apply Ops.g0f | apply Drs.g0t | apply Drs.g0f); case e => (simp (disch := omega) only [evs, Nat.reduceEqDiff, Nat.reduceLT, reduceIte, g1, g4, g5, g6, g16, g17, g20, g21, g22, g31, g32, g33, hrv.idx, hrv.rd, hx, hla, d, jx, jd]))
                        | ((first | apply Ops.g0u | apply Drs.g0u); case e => (simp (disch := omega) only [evs, Nat.reduceEqDiff, Nat.reduceLT, reduceIte, g1, g4, g5, g6, g16, g17, g20, g21, g22, g31, g32, g33, hrv.idx, hrv.rd, hx, hla, d, jx, jd]))
                        | apply Ok.seq
                        | apply Ok.block
                        | (apply Ok.ops (S := Sp))
                        | (apply Ok.condT; case e => (simp (disch := omega) only [evs, Nat.reduceEqDiff, Nat.reduceLT, reduceIte, g1, g4, g5, g6, g16, g17, g20, g21, g22, g31, g32, g33, hrv.idx, hrv.rd, hx, hla, d, jx, jd]))
                        | (apply Ok.condF; case e => (simp (disch := omega) only [evs, Nat.reduceEqDiff, Nat.reduceLT, reduceIte, g1, g4, g5, g6, g16, g17, g20, g21, g22, g31, g32, g33, hrv.idx, hrv.rd, hx, hla, d, jx, jd]))
                        | ((first | apply Ops.nil | apply Drs.nil | apply Ok.skip | apply Ok.exit | apply Ok.ret); try simp only [Then_n, Then_e, Then_r, Out_n, Out_e, Out_r, Nat.reduceEqDiff, reduceIte])
                        | (apply Ok.drs (S := Sp) hmix)
                        )
                      refine ⟨n - (b + 1), by omega, b + 1, by omega, rfl, by trivial, by simp (disch := omega) only [evs, Nat.reduceEqDiff, Nat.reduceLT, reduceIte, cond_true, cond_false, List.map_cons, List.map_nil, Nat.reduceAdd, g1], by simp (disch := omega) only [evs, Nat.reduceEqDiff, Nat.reduceLT, reduceIte, cond_true, cond_false, List.map_cons, List.map_nil, Nat.reduceAdd, g4], by simp (disch := omega) only [evs, Nat.reduceEqDiff, Nat.reduceLT, reduceIte, cond_true, cond_false, List.map_cons, List.map_nil, Nat.reduceAdd, g5], by simp (disch := omega) only [evs, Nat.reduceEqDiff, Nat.reduceLT, reduceIte, cond_true, cond_false, List.map_cons, List.map_nil, Nat.reduceAdd, g6], by simp (disch := omega) only [evs, Nat.reduceEqDiff, Nat.reduceLT, reduceIte, cond_true, cond_false, List.map_cons, List.map_nil, Nat.reduceAdd, g16], by simp (disch := omega) only [evs, Nat.reduceEqDiff, Nat.reduceLT, reduceIte, cond_true, cond_false, List.map_cons, List.map_nil, Nat.reduceAdd, g17], by simp (disch := omega) only [evs, Nat.reduceEqDiff, Nat.reduceLT, reduceIte, cond_true, cond_false, List.map_cons, List.map_nil, Nat.reduceAdd, g20], by simp (disch := omega) only [evs, Nat.reduceEqDiff, Nat.reduceLT, reduceIte, cond_true, cond_false, List.map_cons, List.map_nil, Nat.reduceAdd, g21], by simp (disch := omega) only [evs, Nat.reduceEqDiff, Nat.reduceLT, reduceIte, cond_true, cond_false, List.map_cons, List.map_nil, Nat.reduceAdd, g22], by simp (disch := omega) only [evs, Nat.reduceEqDiff, Nat.reduceLT, reduceIte, cond_true, cond_false, List.map_cons, List.map_nil, Nat.reduceAdd, g31], by simp (disch := omega) only [evs, Nat.reduceEqDiff, Nat.reduceLT, reduceIte, cond_true, cond_false, List.map_cons, List.map_nil, Nat.reduceAdd, g32], by simp (disch := omega) only [evs, Nat.reduceEqDiff, Nat.reduceLT, reduceIte, cond_true, cond_false, List.map_cons, List.map_nil, Nat.reduceAdd, g33, Int.natCast_add, Int.natCast_one], ?_⟩
                      rw [freeB_succ, hT, hpb]; simp
            · exact ⟨0, Nat.zero_le _, rfl, rfl, by simp (disch := omega) only [evs, Nat.reduceEqDiff, Nat.reduceLT, reduceIte, cond_true, cond_false, List.map_cons, List.map_nil, Nat.reduceAdd, e1], by simp (disch := omega) only [evs, Nat.reduceEqDiff, Nat.reduceLT, reduceIte, cond_true, cond_false, List.map_cons, List.map_nil, Nat.reduceAdd, e4], by simp (disch := omega) only [evs, Nat.reduceEqDiff, Nat.reduceLT, reduceIte, cond_true, cond_false, List.map_cons, List.map_nil, Nat.reduceAdd, e5], by simp (disch := omega) only [evs, Nat.reduceEqDiff, Nat.reduceLT, reduceIte, cond_true, cond_false, List.map_cons, List.map_nil, Nat.reduceAdd], by simp (disch := omega) only [evs, Nat.reduceEqDiff, Nat.reduceLT, reduceIte, cond_true, cond_false, List.map_cons, List.map_nil, Nat.reduceAdd, e16], by simp (disch := omega) only [evs, Nat.reduceEqDiff, Nat.reduceLT, reduceIte, cond_true, cond_false, List.map_cons, List.map_nil, Nat.reduceAdd, e17], by simp (disch := omega) only [evs, Nat.reduceEqDiff, Nat.reduceLT, reduceIte, cond_true, cond_false, List.map_cons, List.map_nil, Nat.reduceAdd, e20], by simp (disch := omega) only [evs, Nat.reduceEqDiff, Nat.reduceLT, reduceIte, cond_true, cond_false, List.map_cons, List.map_nil, Nat.reduceAdd, e21], by simp (disch := omega) only [evs, Nat.reduceEqDiff, Nat.reduceLT, reduceIte, cond_true, cond_false, List.map_cons, List.map_nil, Nat.reduceAdd, e22], by simp (disch := omega) only [evs, Nat.reduceEqDiff, Nat.reduceLT, reduceIte, cond_true, cond_false, List.map_cons, List.map_nil, Nat.reduceAdd], by simp (disch := omega) only [evs, Nat.reduceEqDiff, Nat.reduceLT, reduceIte, cond_true, cond_false, List.map_cons, List.map_nil, Nat.reduceAdd], by simp (disch := omega) only [evs, Nat.reduceEqDiff, Nat.reduceLT, reduceIte, cond_true, cond_false, List.map_cons, List.map_nil, Nat.reduceAdd], rfl⟩
          · rw [hpa] at ld
            repeat (first
              | ((first | apply Ops.op | apply Ops.op0 | apply Drs.bar | apply Drs.pure); case e => (intro k; simp (disch := omega) only [evs, Nat.reduceEqDiff, Nat.reduceLT, reduceIte, cond_true, cond_false, Nat.reduceAdd, e1, e4, e5, e16, e17, e20, e21, e22, hMg.idx, hld, ix, ld, hrv.len, hla]; rfl))
              | ((first | apply Ops.g1 | apply Drs.g1); case e => (simp (disch := omega) only [evs, Nat.reduceEqDiff, Nat.reduceLT, reduceIte, e1, e4, e5, e16, e17, e20, e21, e22, hMg.idx, hld, ix, ld, hrv.len, hla]))
              | ((first | apply Ops.g0t | apply Ops.g0f | apply Drs.g0t | apply Drs.g0f); case e => (simp (disch := omega) only [evs, Nat.reduceEqDiff, Nat.reduceLT, reduceIte, e1, e4, e5, e16, e17, e20, e21, e22, hMg.idx, hld, ix, ld, hrv.len, hla]))
              | ((first | apply Ops.g0u | apply Drs.g0u); case e => (simp (disch := omega) only [evs, Nat.reduceEqDiff, Nat.reduceLT, reduceIte, e1, e4, e5, e16, e17, e20, e21, e22, hMg.idx, hld, ix, ld, hrv.len, hla]))
              | apply Ok.seq
              | apply Ok.block
              | (apply Ok.ops (S := Sp))
              | (apply Ok.condT; case e => (simp (disch := omega) only [evs, Nat.reduceEqDiff, Nat.reduceLT, reduceIte, e1, e4, e5, e16, e17, e20, e21, e22, hMg.idx, hld, ix, ld, hrv.len, hla]))
              | (apply Ok.condF; case e => (simp (disch := omega) only [evs, Nat.reduceEqDiff, Nat.reduceLT, reduceIte, e1, e4, e5, e16, e17, e20, e21, e22, hMg.idx, hld, ix, ld, hrv.len, hla]))
              | ((first | apply Ops.nil | apply Drs.nil | apply Ok.skip | apply Ok.exit | apply Ok.ret); try simp only [Then_n, Then_e, Then_r, Out_n, Out_e, Out_r, Nat.reduceEqDiff, reduceIte])
              | (apply Ok.drs (S := Sp) hmix)
              )
            refine ⟨n - (a + 1), by omega, a + 1, by omega, rfl, by trivial, by simp (disch := omega) only [evs, Nat.reduceEqDiff, Nat.reduceLT, reduceIte, cond_true, cond_false, List.map_cons, List.map_nil, Nat.reduceAdd, e1], by simp (disch := omega) only [evs, Nat.reduceEqDiff, Nat.reduceLT, reduceIte, cond_true, cond_false, List.map_cons, List.map_nil, Nat.reduceAdd, e4], by simp (disch := omega) only [evs, Nat.reduceEqDiff, Nat.reduceLT, reduceIte, cond_true, cond_false, List.map_cons, List.map_nil, Nat.reduceAdd, e5], by simp (disch := omega) only [evs, Nat.reduceEqDiff, Nat.reduceLT, reduceIte, cond_true, cond_false, List.map_cons, List.map_nil, Nat.reduceAdd, e16], by simp (disch := omega) only [evs, Nat.reduceEqDiff, Nat.reduceLT, reduceIte, cond_true, cond_false, List.map_cons, List.map_nil, Nat.reduceAdd, e17], by simp (disch := omega) only [evs, Nat.reduceEqDiff, Nat.reduceLT, reduceIte, cond_true, cond_false, List.map_cons, List.map_nil, Nat.reduceAdd, e20], by simp (disch := omega) only [evs, Nat.reduceEqDiff, Nat.reduceLT, reduceIte, cond_true, cond_false, List.map_cons, List.map_nil, Nat.reduceAdd, e21], by simp (disch := omega) only [evs, Nat.reduceEqDiff, Nat.reduceLT, reduceIte, cond_true, cond_false, List.map_cons, List.map_nil, Nat.reduceAdd, e22, Int.natCast_add, Int.natCast_one], ?_⟩
            intro i hi
            rcases Nat.lt_or_ge i a with h7 | h7
            · exact hF i h7
            · have : i = a := by omega
              subst this
              unfold readyB
              rw [hpa]; rfl
      · exact ⟨0, Nat.zero_le _, rfl, rfl, by simp (disch := omega) only [evs, Nat.reduceEqDiff, Nat.reduceLT, reduceIte, cond_true, cond_false, List.map_cons, List.map_nil, Nat.reduceAdd, f1], by simp (disch := omega) only [evs, Nat.reduceEqDiff, Nat.reduceLT, reduceIte, cond_true, cond_false, List.map_cons, List.map_nil, Nat.reduceAdd, f4], by simp (disch := omega) only [evs, Nat.reduceEqDiff, Nat.reduceLT, reduceIte, cond_true, cond_false, List.map_cons, List.map_nil, Nat.reduceAdd, f5], by simp (disch := omega) only [evs, Nat.reduceEqDiff, Nat.reduceLT, reduceIte, cond_true, cond_false, List.map_cons, List.map_nil, Nat.reduceAdd, f16], by simp (disch := omega) only [evs, Nat.reduceEqDiff, Nat.reduceLT, reduceIte, cond_true, cond_false, List.map_cons, List.map_nil, Nat.reduceAdd, f17], by simp (disch := omega) only [evs, Nat.reduceEqDiff, Nat.reduceLT, reduceIte, cond_true, cond_false, List.map_cons, List.map_nil, Nat.reduceAdd], by simp (disch := omega) only [evs, Nat.reduceEqDiff, Nat.reduceLT, reduceIte, cond_true, cond_false, List.map_cons, List.map_nil, Nat.reduceAdd], by simp (disch := omega) only [evs, Nat.reduceEqDiff, Nat.reduceLT, reduceIte, cond_true, cond_false, List.map_cons, List.map_nil, Nat.reduceAdd], by intro i hi; omega⟩
  · refine ⟨0, Nat.zero_le _, rfl, s34, by simp (disch := omega) only [evs, Nat.reduceEqDiff, Nat.reduceLT, reduceIte, cond_true, cond_false, List.map_cons, List.map_nil, Nat.reduceAdd], by show _ = V.l ido 0 0 0 n (some n); simp (disch := omega) only [evs, Nat.reduceEqDiff, Nat.reduceLT, reduceIte, cond_true, cond_false, List.map_cons, List.map_nil, Nat.reduceAdd], by simp (disch := omega) only [evs, Nat.reduceEqDiff, Nat.reduceLT, reduceIte, cond_true, cond_false, List.map_cons, List.map_nil, Nat.reduceAdd], by simp (disch := omega) only [evs, Nat.reduceEqDiff, Nat.reduceLT, reduceIte, cond_true, cond_false, List.map_cons, List.map_nil, Nat.reduceAdd], by simp (disch := omega) only [evs, Nat.reduceEqDiff, Nat.reduceLT, reduceIte, cond_true, cond_false, List.map_cons, List.map_nil, Nat.reduceAdd], ?_, ?_⟩
    · rw [hO1]; exact o3'
    · rw [hO0, List.map_replicate]; exact o4
end Go.Proofs.Ytpnflehemjbemaa
