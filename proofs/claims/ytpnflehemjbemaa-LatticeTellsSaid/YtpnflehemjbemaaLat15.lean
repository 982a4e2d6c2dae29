/- The document's Check of a lattice, by what it computes. No condition. -/
import Derived.Test.YtpnflehemjbemaaLat3
import Derived.Test.YtpnflehemjbemaaIrLat6
import Derived.Test.YtpnflehemjbemaaEvY
set_option maxRecDepth 100000
set_option maxHeartbeats 8000000
set_option linter.all false
namespace Go.Proofs.Ytpnflehemjbemaa
open Go Go.Ev

/-- what the document asks of two levels -/
def pairOk1 (M : Mt) (a b : Nat) : Prop := (a = b → at2 M a a = true) ∧ (a ≠ b → at2 M a b = true → at2 M b a = false)
def pairOk (M : Mt) (a b : Nat) : Prop := pairOk1 M a b ∧ ∀ c, c < M.length → at2 M a b = true → at2 M b c = true → at2 M a c = true
theorem ordered_pairs {M : Mt} (hq : ∀ i, i < M.length → (M.getD i []).length = M.length) : orderedB M = true ↔ ∀ a b, a < M.length → b < M.length → pairOk M a b := by
  constructor
  · intro h a b ha hb
    have h1 := of_decide_eq_true h
    have h2 := (h1 a ha).2 b hb
    unfold rowOk at h2
    refine ⟨⟨fun e => (h1 a ha).1, fun hne hab => ?_⟩, fun c hc hab hbc => ?_⟩
    · have hba : (b == a) = false := beq_eq_false_iff_ne.2 fun e => hne e.symm
      rw [hab, hba] at h2
      simp at h2
      exact h2.1
    · by_cases hne : b = a
      · subst hne; exact hbc
      · have hba : (b == a) = false := beq_eq_false_iff_ne.2 hne
        rw [hab, hba] at h2
        simp at h2
        exact of_decide_eq_true h2.2 c (by have := hq b hb; simp only [List.getD_eq_getElem?_getD] at this; rw [this]; exact hc) hbc
  · intro h
    refine decide_eq_true fun a ha => ⟨((h a a ha ha).1).1 rfl, fun b hb => ?_⟩
    unfold rowOk
    obtain ⟨⟨h1, h2⟩, h3⟩ := h a b ha hb
    cases hab : at2 M a b with
    | false => rfl
    | true =>
      by_cases hne : b = a
      · subst hne; simp
      · have hba := h2 (fun e => hne e.symm) hab
        rw [hba]
        have : holdsB (M.getD a []) (M.getD b []) = true := decide_eq_true fun c hc hbc => h3 c (by rw [hq b hb] at hc; exact hc) hab hbc
        rw [this]; simp

theorem rcheck_ok {h : H} {v : V} {M : Mt} (hM0 : Mx h v M) (hs : M.length ≤ 1000000) (hrl : ∀ i, i < M.length → (M.getD i []).length ≤ 1000000) : FnOk Try.prog 16 [.a [v]] h fun y h' => y = .i .i64 (chkN M : Nat) ∧ Stay nowhere h h' := by
  refine fn_run c16 (by intro hb; cases hb) (by simp) (by simp) ?_
  simp only [slotsF, Nat.reduceAdd]
  unfold b16
  repeat (first
    | ((first | apply Ops.op | apply Ops.op0 | apply Drs.bar | apply Drs.pure); case e => (intro k; simp (disch := omega) only [evs, Nat.reduceEqDiff, Nat.reduceLT, reduceIte, cond_true, cond_false, Nat.reduceAdd]; rfl))
    | ((first | apply Ops.g1 | apply Drs.g1); case e => (simp (disch := omega) only [evs, Nat.reduceEqDiff, Nat.reduceLT, reduceIte]))
    | ((first | apply Ops.g0t | apply Ops.g0f | apply Drs.g0t | apply Drs.g0f); case e => (simp (disch := omega) only [evs, Nat.reduceEqDiff, Nat.reduceLT, reduceIte]))
    | ((first | apply Ops.g0u | apply Drs.g0u); case e => (simp (disch := omega) only [evs, Nat.reduceEqDiff, Nat.reduceLT, reduceIte]))
    | apply Ok.seq
    | apply Ok.block
    | (apply Ok.ops (S := Sp))
    | (apply Ok.condT; case e => (simp (disch := omega) only [evs, Nat.reduceEqDiff, Nat.reduceLT, reduceIte]))
    | (apply Ok.condF; case e => (simp (disch := omega) only [evs, Nat.reduceEqDiff, Nat.reduceLT, reduceIte]))
    | ((first | apply Ops.nil | apply Drs.nil | apply Ok.skip | apply Ok.exit | apply Ok.ret); try simp only [Then_n, Then_e, Then_r, Out_n, Out_e, Out_r, Nat.reduceEqDiff, reduceIte])
    | (apply Ok.drs (S := Sp) hmix)
    )
  apply Ops.box1
  case e => (simp (disch := omega) only [evs, Nat.reduceEqDiff, Nat.reduceLT, reduceIte, cond_true, cond_false, List.map_cons, List.map_nil, Nat.reduceAdd]; rfl)
  case k =>
  intro h1 id st hlt hge hrow
  have hM := hM0.grow st
  have ten : (squareB M = false) → ∀ K : V → H → Prop, (∀ y, y = .i .i64 10 → K y h1) → K (.i .i64 10) h1 := fun _ K k => k _ rfl
  cases d1 : decide ((M.length : Int) < 1) with
  | true =>
    have e1 := of_decide_eq_true d1
    have hsq : squareB M = false := decide_eq_false fun h => by omega
    repeat (first
      | ((first | apply Ops.op | apply Ops.op0 | apply Drs.bar | apply Drs.pure); case e => (intro k; simp (disch := omega) only [evs, Nat.reduceEqDiff, Nat.reduceLT, reduceIte, cond_true, cond_false, Nat.reduceAdd, hrow.rd1, hM.len, d1]; rfl))
      | ((first | apply Ops.g1 | apply Drs.g1); case e => (simp (disch := omega) only [evs, Nat.reduceEqDiff, Nat.reduceLT, reduceIte, hrow.rd1, hM.len, d1]))
      | ((first | apply Ops.g0t | apply Ops.g0f | apply Drs.g0t | apply Drs.g0f); case e => (simp (disch := omega) only [evs, Nat.reduceEqDiff, Nat.reduceLT, reduceIte, hrow.rd1, hM.len, d1]))
      | ((first | apply Ops.g0u | apply Drs.g0u); case e => (simp (disch := omega) only [evs, Nat.reduceEqDiff, Nat.reduceLT, reduceIte, hrow.rd1, hM.len, d1]))
      | apply Ok.seq
      | apply Ok.block
      | (apply Ok.ops (S := Sp))
      | (apply Ok.condT; case e => (simp (disch := omega) only [evs, Nat.reduceEqDiff, Nat.reduceLT, reduceIte, hrow.rd1, hM.len, d1]))
      | (apply Ok.condF; case e => (simp (disch := omega) only [evs, Nat.reduceEqDiff, Nat.reduceLT, reduceIte, hrow.rd1, hM.len, d1]))
      | ((first | apply Ops.nil | apply Drs.nil | apply Ok.skip | apply Ok.exit | apply Ok.ret); try simp only [Then_n, Then_e, Then_r, Out_n, Out_e, Out_r, Nat.reduceEqDiff, reduceIte])
      | (apply Ok.drs (S := Sp) hmix)
      )
    refine ⟨_, fun k => res_1 _ _ _ k, ?_⟩
    simp (disch := omega) only [evs, Nat.reduceEqDiff, Nat.reduceLT, reduceIte, cond_true, cond_false, List.map_cons, List.map_nil, Nat.reduceAdd, one_1]
    exact ⟨by simp [chkN, hsq], st⟩
  | false =>
  cases d2 : decide ((6 : Int) < (M.length : Int)) with
  | true =>
    have e2 := of_decide_eq_true d2
    have hsq : squareB M = false := decide_eq_false fun h => by omega
    repeat (first
      | ((first | apply Ops.op | apply Ops.op0 | apply Drs.bar | apply Drs.pure); case e => (intro k; simp (disch := omega) only [evs, Nat.reduceEqDiff, Nat.reduceLT, reduceIte, cond_true, cond_false, Nat.reduceAdd, hrow.rd1, hM.len, d1, d2]; rfl))
      | ((first | apply Ops.g1 | apply Drs.g1); case e => (simp (disch := omega) only [evs, Nat.reduceEqDiff, Nat.reduceLT, reduceIte, hrow.rd1, hM.len, d1, d2]))
      | ((first | apply Ops.g0t | apply Ops.g0f | apply Drs.g0t | apply Drs.g0f); case e => (simp (disch := omega) only [evs, Nat.reduceEqDiff, Nat.reduceLT, reduceIte, hrow.rd1, hM.len, d1, d2]))
      | ((first | apply Ops.g0u | apply Drs.g0u); case e => (simp (disch := omega) only [evs, Nat.reduceEqDiff, Nat.reduceLT, reduceIte, hrow.rd1, hM.len, d1, d2]))
      | apply Ok.seq
      | apply Ok.block
      | (apply Ok.ops (S := Sp))
      | (apply Ok.condT; case e => (simp (disch := omega) only [evs, Nat.reduceEqDiff, Nat.reduceLT, reduceIte, hrow.rd1, hM.len, d1, d2]))
      | (apply Ok.condF; case e => (simp (disch := omega) only [evs, Nat.reduceEqDiff, Nat.reduceLT, reduceIte, hrow.rd1, hM.len, d1, d2]))
      | ((first | apply Ops.nil | apply Drs.nil | apply Ok.skip | apply Ok.exit | apply Ok.ret); try simp only [Then_n, Then_e, Then_r, Out_n, Out_e, Out_r, Nat.reduceEqDiff, reduceIte])
      | (apply Ok.drs (S := Sp) hmix)
      )
    refine ⟨_, fun k => res_1 _ _ _ k, ?_⟩
    simp (disch := omega) only [evs, Nat.reduceEqDiff, Nat.reduceLT, reduceIte, cond_true, cond_false, List.map_cons, List.map_nil, Nat.reduceAdd, one_1]
    exact ⟨by simp [chkN, hsq], st⟩
  | false =>
  have e1 := of_decide_eq_false d1
  have e2 := of_decide_eq_false d2
  repeat (first
    | ((first | apply Ops.op | apply Ops.op0 | apply Drs.bar | apply Drs.pure); case e => (intro k; simp (disch := omega) only [evs, Nat.reduceEqDiff, Nat.reduceLT, reduceIte, cond_true, cond_false, Nat.reduceAdd, hrow.rd1, hM.len, d1, d2]; rfl))
    | ((first | apply Ops.g1 | apply Drs.g1); case e => (simp (disch := omega) only [evs, Nat.reduceEqDiff, Nat.reduceLT, reduceIte, hrow.rd1, hM.len, d1, d2]))
    | ((first | apply Ops.g0t | apply Ops.g0f | apply Drs.g0t | apply Drs.g0f); case e => (simp (disch := omega) only [evs, Nat.reduceEqDiff, Nat.reduceLT, reduceIte, hrow.rd1, hM.len, d1, d2]))
    | ((first | apply Ops.g0u | apply Drs.g0u); case e => (simp (disch := omega) only [evs, Nat.reduceEqDiff, Nat.reduceLT, reduceIte, hrow.rd1, hM.len, d1, d2]))
    | apply Ok.seq
    | apply Ok.block
    | (apply Ok.ops (S := Sp))
    | (apply Ok.condT; case e => (simp (disch := omega) only [evs, Nat.reduceEqDiff, Nat.reduceLT, reduceIte, hrow.rd1, hM.len, d1, d2]))
    | (apply Ok.condF; case e => (simp (disch := omega) only [evs, Nat.reduceEqDiff, Nat.reduceLT, reduceIte, hrow.rd1, hM.len, d1, d2]))
    | ((first | apply Ops.nil | apply Drs.nil | apply Ok.skip | apply Ok.exit | apply Ok.ret); try simp only [Then_n, Then_e, Then_r, Out_n, Out_e, Out_r, Nat.reduceEqDiff, reduceIte])
    | (apply Ok.drs (S := Sp) hmix)
    )
  refine Ok.loop (fun m t g => ∃ i : Nat, i ≤ M.length ∧ m = M.length - i ∧ g = h1 ∧ get 1 t = .p id 0 0 1 ∧ get 3 t = .i .i64 (M.length : Int) ∧ get 4 t = .i .i64 (i : Int) ∧ ∀ j, j < i → (M.getD j []).length = M.length) ?_ M.length _ _ ?_
  case refine_2 => exact ⟨0, Nat.zero_le _, rfl, by trivial, by simp (disch := omega) only [evs, Nat.reduceEqDiff, Nat.reduceLT, reduceIte, cond_true, cond_false, List.map_cons, List.map_nil, Nat.reduceAdd], by simp (disch := omega) only [evs, Nat.reduceEqDiff, Nat.reduceLT, reduceIte, cond_true, cond_false, List.map_cons, List.map_nil, Nat.reduceAdd], by simp (disch := omega) only [evs, Nat.reduceEqDiff, Nat.reduceLT, reduceIte, cond_true, cond_false, List.map_cons, List.map_nil, Nat.reduceAdd], fun j hj => absurd hj (Nat.not_lt_zero _)⟩
  rintro m t h1 ⟨i, hi, rfl, rfl, f1, f3, f4, hF⟩
  unfold l16_0
  repeat (first
    | ((first | apply Ops.op | apply Ops.op0 | apply Drs.bar | apply Drs.pure); case e => (intro k; simp (disch := omega) only [evs, Nat.reduceEqDiff, Nat.reduceLT, reduceIte, cond_true, cond_false, Nat.reduceAdd, f1, f3, f4]; rfl))
    | ((first | apply Ops.g1 | apply Drs.g1); case e => (simp (disch := omega) only [evs, Nat.reduceEqDiff, Nat.reduceLT, reduceIte, f1, f3, f4]))
    | ((first | apply Ops.g0t | apply Ops.g0f | apply Drs.g0t | apply Drs.g0f); case e => (simp (disch := omega) only [evs, Nat.reduceEqDiff, Nat.reduceLT, reduceIte, f1, f3, f4]))
    | ((first | apply Ops.g0u | apply Drs.g0u); case e => (simp (disch := omega) only [evs, Nat.reduceEqDiff, Nat.reduceLT, reduceIte, f1, f3, f4]))
    | apply Ok.seq
    | apply Ok.block
    | (apply Ok.ops (S := Sp))
    | (apply Ok.condT; case e => (simp (disch := omega) only [evs, Nat.reduceEqDiff, Nat.reduceLT, reduceIte, f1, f3, f4]))
    | (apply Ok.condF; case e => (simp (disch := omega) only [evs, Nat.reduceEqDiff, Nat.reduceLT, reduceIte, f1, f3, f4]))
    | ((first | apply Ops.nil | apply Drs.nil | apply Ok.skip | apply Ok.exit | apply Ok.ret); try simp only [Then_n, Then_e, Then_r, Out_n, Out_e, Out_r, Nat.reduceEqDiff, reduceIte])
    | (apply Ok.drs (S := Sp) hmix)
    )
  apply Ok.cond
  case hq => (simp (disch := omega) only [evs, Nat.reduceEqDiff, Nat.reduceLT, reduceIte, cond_true, cond_false, List.map_cons, List.map_nil, Nat.reduceAdd, f3, f4]; rfl)
  case ha =>
    intro hc
    have hc := of_decide_eq_true hc
    obtain ⟨r, hr, ld⟩ := hM.rd (i := i) (by omega)
    have hli := hrl i (by omega)
    cases d3 : decide (((M.getD i []).length : Int) = (M.length : Int)) with
    | true =>
      have e3 := of_decide_eq_true d3
      repeat (first
        | ((first | apply Ops.op | apply Ops.op0 | apply Drs.bar | apply Drs.pure); case e => (intro k; simp (disch := omega) only [evs, Nat.reduceEqDiff, Nat.reduceLT, reduceIte, cond_true, cond_false, Nat.reduceAdd, f1, f3, f4, hrow.rd1, hM.idx, ld, hr.len, d3]; rfl))
        | ((first | apply Ops.g1 | apply Drs.g1); case e => (simp (disch := omega) only [evs, Nat.reduceEqDiff, Nat.reduceLT, reduceIte, f1, f3, f4, hrow.rd1, hM.idx, ld, hr.len, d3]))
        | ((first | apply Ops.g0t | apply Ops.g0f | apply Drs.g0t | apply Drs.g0f); case e => (simp (disch := omega) only [evs, Nat.reduceEqDiff, Nat.reduceLT, reduceIte, f1, f3, f4, hrow.rd1, hM.idx, ld, hr.len, d3]))
        | ((first | apply Ops.g0u | apply Drs.g0u); case e => (simp (disch := omega) only [evs, Nat.reduceEqDiff, Nat.reduceLT, reduceIte, f1, f3, f4, hrow.rd1, hM.idx, ld, hr.len, d3]))
        | apply Ok.seq
        | apply Ok.block
        | (apply Ok.ops (S := Sp))
        | (apply Ok.condT; case e => (simp (disch := omega) only [evs, Nat.reduceEqDiff, Nat.reduceLT, reduceIte, f1, f3, f4, hrow.rd1, hM.idx, ld, hr.len, d3]))
        | (apply Ok.condF; case e => (simp (disch := omega) only [evs, Nat.reduceEqDiff, Nat.reduceLT, reduceIte, f1, f3, f4, hrow.rd1, hM.idx, ld, hr.len, d3]))
        | ((first | apply Ops.nil | apply Drs.nil | apply Ok.skip | apply Ok.exit | apply Ok.ret); try simp only [Then_n, Then_e, Then_r, Out_n, Out_e, Out_r, Nat.reduceEqDiff, reduceIte])
        | (apply Ok.drs (S := Sp) hmix)
        )
      refine ⟨M.length - (i + 1), by omega, i + 1, by omega, rfl, by trivial, by simp (disch := omega) only [evs, Nat.reduceEqDiff, Nat.reduceLT, reduceIte, cond_true, cond_false, List.map_cons, List.map_nil, Nat.reduceAdd, f1], by simp (disch := omega) only [evs, Nat.reduceEqDiff, Nat.reduceLT, reduceIte, cond_true, cond_false, List.map_cons, List.map_nil, Nat.reduceAdd, f3], by simp (disch := omega) only [evs, Nat.reduceEqDiff, Nat.reduceLT, reduceIte, cond_true, cond_false, List.map_cons, List.map_nil, Nat.reduceAdd, f4, Int.natCast_add, Int.natCast_one], fun j hj => ?_⟩
      rcases Nat.lt_or_ge j i with h7 | h7
      · exact hF j h7
      · have : j = i := by omega
        subst this; omega
    | false =>
      have e3 := of_decide_eq_false d3
      have hsq : squareB M = false := decide_eq_false fun h => e3 (by rw [h.2.2 i (by omega)])
      repeat (first
        | ((first | apply Ops.op | apply Ops.op0 | apply Drs.bar | apply Drs.pure); case e => (intro k; simp (disch := omega) only [evs, Nat.reduceEqDiff, Nat.reduceLT, reduceIte, cond_true, cond_false, Nat.reduceAdd, f1, f3, f4, hrow.rd1, hM.idx, ld, hr.len, d3]; rfl))
        | ((first | apply Ops.g1 | apply Drs.g1); case e => (simp (disch := omega) only [evs, Nat.reduceEqDiff, Nat.reduceLT, reduceIte, f1, f3, f4, hrow.rd1, hM.idx, ld, hr.len, d3]))
        | ((first | apply Ops.g0t | apply Ops.g0f | apply Drs.g0t | apply Drs.g0f); case e => (simp (disch := omega) only [evs, Nat.reduceEqDiff, Nat.reduceLT, reduceIte, f1, f3, f4, hrow.rd1, hM.idx, ld, hr.len, d3]))
        | ((first | apply Ops.g0u | apply Drs.g0u); case e => (simp (disch := omega) only [evs, Nat.reduceEqDiff, Nat.reduceLT, reduceIte, f1, f3, f4, hrow.rd1, hM.idx, ld, hr.len, d3]))
        | apply Ok.seq
        | apply Ok.block
        | (apply Ok.ops (S := Sp))
        | (apply Ok.condT; case e => (simp (disch := omega) only [evs, Nat.reduceEqDiff, Nat.reduceLT, reduceIte, f1, f3, f4, hrow.rd1, hM.idx, ld, hr.len, d3]))
        | (apply Ok.condF; case e => (simp (disch := omega) only [evs, Nat.reduceEqDiff, Nat.reduceLT, reduceIte, f1, f3, f4, hrow.rd1, hM.idx, ld, hr.len, d3]))
        | ((first | apply Ops.nil | apply Drs.nil | apply Ok.skip | apply Ok.exit | apply Ok.ret); try simp only [Then_n, Then_e, Then_r, Out_n, Out_e, Out_r, Nat.reduceEqDiff, reduceIte])
        | (apply Ok.drs (S := Sp) hmix)
        )
      refine ⟨_, fun k => res_1 _ _ _ k, ?_⟩
      simp (disch := omega) only [evs, Nat.reduceEqDiff, Nat.reduceLT, reduceIte, cond_true, cond_false, List.map_cons, List.map_nil, Nat.reduceAdd, one_1]
      exact ⟨by simp [chkN, hsq], st⟩
  case hb =>
  intro hc
  have hc := of_decide_eq_false hc
  have : i = M.length := by omega
  subst this
  have hsq : squareB M = true := decide_eq_true ⟨by omega, by omega, hF⟩
  have hord := ordered_pairs hF
  have bad : (¬ ∀ a b, a < M.length → b < M.length → pairOk M a b) → chkN M = 11 := fun h => by
    have : orderedB M = false := by
      cases ho : orderedB M with
      | false => rfl
      | true => exact absurd (hord.1 ho) h
    simp [chkN, hsq, this]
  have good : (∀ a b, a < M.length → b < M.length → pairOk M a b) → chkN M = 0 := fun h => by simp [chkN, hsq, hord.2 h]
  clear hord ten hsq
  repeat (first
    | ((first | apply Ops.op | apply Ops.op0 | apply Drs.bar | apply Drs.pure); case e => (intro k; simp (disch := omega) only [evs, Nat.reduceEqDiff, Nat.reduceLT, reduceIte, cond_true, cond_false, Nat.reduceAdd, f1, f3, f4]; rfl))
    | ((first | apply Ops.g1 | apply Drs.g1); case e => (simp (disch := omega) only [evs, Nat.reduceEqDiff, Nat.reduceLT, reduceIte, f1, f3, f4]))
    | ((first | apply Ops.g0t | apply Ops.g0f | apply Drs.g0t | apply Drs.g0f); case e => (simp (disch := omega) only [evs, Nat.reduceEqDiff, Nat.reduceLT, reduceIte, f1, f3, f4]))
    | ((first | apply Ops.g0u | apply Drs.g0u); case e => (simp (disch := omega) only [evs, Nat.reduceEqDiff, Nat.reduceLT, reduceIte, f1, f3, f4]))
    | apply Ok.seq
    | apply Ok.block
    | (apply Ok.ops (S := Sp))
    | (apply Ok.condT; case e => (simp (disch := omega) only [evs, Nat.reduceEqDiff, Nat.reduceLT, reduceIte, f1, f3, f4]))
    | (apply Ok.condF; case e => (simp (disch := omega) only [evs, Nat.reduceEqDiff, Nat.reduceLT, reduceIte, f1, f3, f4]))
    | ((first | apply Ops.nil | apply Drs.nil | apply Ok.skip | apply Ok.exit | apply Ok.ret); try simp only [Then_n, Then_e, Then_r, Out_n, Out_e, Out_r, Nat.reduceEqDiff, reduceIte])
    | (apply Ok.drs (S := Sp) hmix)
    )
  refine Ok.loop (fun m t g => ∃ a : Nat, a ≤ M.length ∧ m = M.length - a ∧ g = h1 ∧ get 1 t = .p id 0 0 1 ∧ get 3 t = .i .i64 (M.length : Int) ∧ get 5 t = .i .i64 (a : Int) ∧ ∀ x y, x < a → y < M.length → pairOk M x y) ?_ M.length _ _ ?_
  case refine_2 => exact ⟨0, Nat.zero_le _, rfl, by trivial, by simp (disch := omega) only [evs, Nat.reduceEqDiff, Nat.reduceLT, reduceIte, cond_true, cond_false, List.map_cons, List.map_nil, Nat.reduceAdd, f1], by simp (disch := omega) only [evs, Nat.reduceEqDiff, Nat.reduceLT, reduceIte, cond_true, cond_false, List.map_cons, List.map_nil, Nat.reduceAdd, f3], by simp (disch := omega) only [evs, Nat.reduceEqDiff, Nat.reduceLT, reduceIte, cond_true, cond_false, List.map_cons, List.map_nil, Nat.reduceAdd], fun x y hx => absurd hx (Nat.not_lt_zero _)⟩
  clear f1 f3 f4
  rintro m t h1 ⟨a, ha, rfl, rfl, f1, f3, f5, hA⟩
  unfold l16_1
  repeat (first
    | ((first | apply Ops.op | apply Ops.op0 | apply Drs.bar | apply Drs.pure); case e => (intro k; simp (disch := omega) only [evs, Nat.reduceEqDiff, Nat.reduceLT, reduceIte, cond_true, cond_false, Nat.reduceAdd, f1, f3, f5]; rfl))
    | ((first | apply Ops.g1 | apply Drs.g1); case e => (simp (disch := omega) only [evs, Nat.reduceEqDiff, Nat.reduceLT, reduceIte, f1, f3, f5]))
    | ((first | apply Ops.g0t | apply Ops.g0f | apply Drs.g0t | apply Drs.g0f); case e => (simp (disch := omega) only [evs, Nat.reduceEqDiff, Nat.reduceLT, reduceIte, f1, f3, f5]))
    | ((first | apply Ops.g0u | apply Drs.g0u); case e => (simp (disch := omega) only [evs, Nat.reduceEqDiff, Nat.reduceLT, reduceIte, f1, f3, f5]))
    | apply Ok.seq
    | apply Ok.block
    | (apply Ok.ops (S := Sp))
    | (apply Ok.condT; case e => (simp (disch := omega) only [evs, Nat.reduceEqDiff, Nat.reduceLT, reduceIte, f1, f3, f5]))
    | (apply Ok.condF; case e => (simp (disch := omega) only [evs, Nat.reduceEqDiff, Nat.reduceLT, reduceIte, f1, f3, f5]))
    | ((first | apply Ops.nil | apply Drs.nil | apply Ok.skip | apply Ok.exit | apply Ok.ret); try simp only [Then_n, Then_e, Then_r, Out_n, Out_e, Out_r, Nat.reduceEqDiff, reduceIte])
    | (apply Ok.drs (S := Sp) hmix)
    )
  apply Ok.cond
  case hq => (simp (disch := omega) only [evs, Nat.reduceEqDiff, Nat.reduceLT, reduceIte, cond_true, cond_false, List.map_cons, List.map_nil, Nat.reduceAdd, f3, f5]; rfl)
  case hb =>
    intro hc
    have hc := of_decide_eq_false hc
    have : a = M.length := by omega
    subst this
    repeat (first
      | ((first | apply Ops.op | apply Ops.op0 | apply Drs.bar | apply Drs.pure); case e => (intro k; simp (disch := omega) only [evs, Nat.reduceEqDiff, Nat.reduceLT, reduceIte, cond_true, cond_false, Nat.reduceAdd]; rfl))
      | ((first | apply Ops.g1 | apply Drs.g1); case e => (simp (disch := omega) only [evs, Nat.reduceEqDiff, Nat.reduceLT, reduceIte]))
      | ((first | apply Ops.g0t | apply Ops.g0f | apply Drs.g0t | apply Drs.g0f); case e => (simp (disch := omega) only [evs, Nat.reduceEqDiff, Nat.reduceLT, reduceIte]))
      | ((first | apply Ops.g0u | apply Drs.g0u); case e => (simp (disch := omega) only [evs, Nat.reduceEqDiff, Nat.reduceLT, reduceIte]))
      | apply Ok.seq
      | apply Ok.block
      | (apply Ok.ops (S := Sp))
      | (apply Ok.condT; case e => (simp (disch := omega) only [evs, Nat.reduceEqDiff, Nat.reduceLT, reduceIte]))
      | (apply Ok.condF; case e => (simp (disch := omega) only [evs, Nat.reduceEqDiff, Nat.reduceLT, reduceIte]))
      | ((first | apply Ops.nil | apply Drs.nil | apply Ok.skip | apply Ok.exit | apply Ok.ret); try simp only [Then_n, Then_e, Then_r, Out_n, Out_e, Out_r, Nat.reduceEqDiff, reduceIte])
      | (apply Ok.drs (S := Sp) hmix)
      )
    refine ⟨_, fun k => res_1 _ _ _ k, ?_⟩
    simp (disch := omega) only [evs, Nat.reduceEqDiff, Nat.reduceLT, reduceIte, cond_true, cond_false, List.map_cons, List.map_nil, Nat.reduceAdd, one_1]
    exact ⟨by rw [good hA]; rfl, st⟩
  case ha =>
  intro hc
  have hc := of_decide_eq_true hc
  have haM : a < M.length := by omega
  obtain ⟨ra, hra, lda⟩ := hM.rd (i := a) haM
  have hla := hF a haM
  repeat (first
    | ((first | apply Ops.op | apply Ops.op0 | apply Drs.bar | apply Drs.pure); case e => (intro k; simp (disch := omega) only [evs, Nat.reduceEqDiff, Nat.reduceLT, reduceIte, cond_true, cond_false, Nat.reduceAdd, f1, f3, f5]; rfl))
    | ((first | apply Ops.g1 | apply Drs.g1); case e => (simp (disch := omega) only [evs, Nat.reduceEqDiff, Nat.reduceLT, reduceIte, f1, f3, f5]))
    | ((first | apply Ops.g0t | apply Ops.g0f | apply Drs.g0t | apply Drs.g0f); case e => (simp (disch := omega) only [evs, Nat.reduceEqDiff, Nat.reduceLT, reduceIte, f1, f3, f5]))
    | ((first | apply Ops.g0u | apply Drs.g0u); case e => (simp (disch := omega) only [evs, Nat.reduceEqDiff, Nat.reduceLT, reduceIte, f1, f3, f5]))
    | apply Ok.seq
    | apply Ok.block
    | (apply Ok.ops (S := Sp))
    | (apply Ok.condT; case e => (simp (disch := omega) only [evs, Nat.reduceEqDiff, Nat.reduceLT, reduceIte, f1, f3, f5]))
    | (apply Ok.condF; case e => (simp (disch := omega) only [evs, Nat.reduceEqDiff, Nat.reduceLT, reduceIte, f1, f3, f5]))
    | ((first | apply Ops.nil | apply Drs.nil | apply Ok.skip | apply Ok.exit | apply Ok.ret); try simp only [Then_n, Then_e, Then_r, Out_n, Out_e, Out_r, Nat.reduceEqDiff, reduceIte])
    | (apply Ok.drs (S := Sp) hmix)
    )
  refine Ok.loop (fun m t g => ∃ b : Nat, b ≤ M.length ∧ m = M.length - b ∧ g = h1 ∧ get 1 t = .p id 0 0 1 ∧ get 3 t = .i .i64 (M.length : Int) ∧ get 5 t = .i .i64 (a : Int) ∧ get 6 t = .i .i64 (b : Int) ∧ ∀ y, y < b → pairOk M a y) ?_ M.length _ _ ?_
  case refine_2 => exact ⟨0, Nat.zero_le _, rfl, by trivial, by simp (disch := omega) only [evs, Nat.reduceEqDiff, Nat.reduceLT, reduceIte, cond_true, cond_false, List.map_cons, List.map_nil, Nat.reduceAdd, f1], by simp (disch := omega) only [evs, Nat.reduceEqDiff, Nat.reduceLT, reduceIte, cond_true, cond_false, List.map_cons, List.map_nil, Nat.reduceAdd, f3], by simp (disch := omega) only [evs, Nat.reduceEqDiff, Nat.reduceLT, reduceIte, cond_true, cond_false, List.map_cons, List.map_nil, Nat.reduceAdd, f5], by simp (disch := omega) only [evs, Nat.reduceEqDiff, Nat.reduceLT, reduceIte, cond_true, cond_false, List.map_cons, List.map_nil, Nat.reduceAdd], fun y hy => absurd hy (Nat.not_lt_zero _)⟩
  clear f1 f3 f5
  rintro m t h1 ⟨b, hb, rfl, rfl, f1, f3, f5, f6, hB⟩
  unfold l16_2
  repeat (first
    | ((first | apply Ops.op | apply Ops.op0 | apply Drs.bar | apply Drs.pure); case e => (intro k; simp (disch := omega) only [evs, Nat.reduceEqDiff, Nat.reduceLT, reduceIte, cond_true, cond_false, Nat.reduceAdd, f1, f3, f5, f6]; rfl))
    | ((first | apply Ops.g1 | apply Drs.g1); case e => (simp (disch := omega) only [evs, Nat.reduceEqDiff, Nat.reduceLT, reduceIte, f1, f3, f5, f6]))
    | ((first | apply Ops.g0t | apply Ops.g0f | apply Drs.g0t | apply Drs.g0f); case e => (simp (disch := omega) only [evs, Nat.reduceEqDiff, Nat.reduceLT, reduceIte, f1, f3, f5, f6]))
    | ((first | apply Ops.g0u | apply Drs.g0u); case e => (simp (disch := omega) only [evs, Nat.reduceEqDiff, Nat.reduceLT, reduceIte, f1, f3, f5, f6]))
    | apply Ok.seq
    | apply Ok.block
    | (apply Ok.ops (S := Sp))
    | (apply Ok.condT; case e => (simp (disch := omega) only [evs, Nat.reduceEqDiff, Nat.reduceLT, reduceIte, f1, f3, f5, f6]))
    | (apply Ok.condF; case e => (simp (disch := omega) only [evs, Nat.reduceEqDiff, Nat.reduceLT, reduceIte, f1, f3, f5, f6]))
    | ((first | apply Ops.nil | apply Drs.nil | apply Ok.skip | apply Ok.exit | apply Ok.ret); try simp only [Then_n, Then_e, Then_r, Out_n, Out_e, Out_r, Nat.reduceEqDiff, reduceIte])
    | (apply Ok.drs (S := Sp) hmix)
    )
  apply Ok.cond
  case hq => (simp (disch := omega) only [evs, Nat.reduceEqDiff, Nat.reduceLT, reduceIte, cond_true, cond_false, List.map_cons, List.map_nil, Nat.reduceAdd, f3, f6]; rfl)
  case hb =>
    intro hc2
    have hc2 := of_decide_eq_false hc2
    have : b = M.length := by omega
    subst this
    repeat (first
      | ((first | apply Ops.op | apply Ops.op0 | apply Drs.bar | apply Drs.pure); case e => (intro k; simp (disch := omega) only [evs, Nat.reduceEqDiff, Nat.reduceLT, reduceIte, cond_true, cond_false, Nat.reduceAdd, f1, f3, f5]; rfl))
      | ((first | apply Ops.g1 | apply Drs.g1); case e => (simp (disch := omega) only [evs, Nat.reduceEqDiff, Nat.reduceLT, reduceIte, f1, f3, f5]))
      | ((first | apply Ops.g0t | apply Ops.g0f | apply Drs.g0t | apply Drs.g0f); case e => (simp (disch := omega) only [evs, Nat.reduceEqDiff, Nat.reduceLT, reduceIte, f1, f3, f5]))
      | ((first | apply Ops.g0u | apply Drs.g0u); case e => (simp (disch := omega) only [evs, Nat.reduceEqDiff, Nat.reduceLT, reduceIte, f1, f3, f5]))
      | apply Ok.seq
      | apply Ok.block
      | (apply Ok.ops (S := Sp))
      | (apply Ok.condT; case e => (simp (disch := omega) only [evs, Nat.reduceEqDiff, Nat.reduceLT, reduceIte, f1, f3, f5]))
      | (apply Ok.condF; case e => (simp (disch := omega) only [evs, Nat.reduceEqDiff, Nat.reduceLT, reduceIte, f1, f3, f5]))
      | ((first | apply Ops.nil | apply Drs.nil | apply Ok.skip | apply Ok.exit | apply Ok.ret); try simp only [Then_n, Then_e, Then_r, Out_n, Out_e, Out_r, Nat.reduceEqDiff, reduceIte])
      | (apply Ok.drs (S := Sp) hmix)
      )
    refine ⟨M.length - (a + 1), by omega, a + 1, by omega, rfl, by trivial, by simp (disch := omega) only [evs, Nat.reduceEqDiff, Nat.reduceLT, reduceIte, cond_true, cond_false, List.map_cons, List.map_nil, Nat.reduceAdd, f1], by simp (disch := omega) only [evs, Nat.reduceEqDiff, Nat.reduceLT, reduceIte, cond_true, cond_false, List.map_cons, List.map_nil, Nat.reduceAdd, f3], by simp (disch := omega) only [evs, Nat.reduceEqDiff, Nat.reduceLT, reduceIte, cond_true, cond_false, List.map_cons, List.map_nil, Nat.reduceAdd, f5, Int.natCast_add, Int.natCast_one], fun x y hx hy => ?_⟩
    rcases Nat.lt_or_ge x a with h7 | h7
    · exact hA x y h7 hy
    · have : x = a := by omega
      subst this; exact hB y hy
  case ha =>
  intro hc2
  have hc2 := of_decide_eq_true hc2
  have hbM : b < M.length := by omega
  obtain ⟨rb, hrb, ldb⟩ := hM.rd (i := b) hbM
  have hlb := hF b hbM
  have wrong : ¬ pairOk M a b → V.i .i64 11 = V.i .i64 ((chkN M : Nat) : Int) := fun h => by rw [bad fun h2 => h (h2 a b haM hbM)]; rfl
  apply Ok.skip
  simp only [Then_n, Then_e, Then_r, Out_n, Out_e, Out_r, Nat.reduceEqDiff, reduceIte]
  apply Ok.seq
  apply Ok.block
  refine Ok.mid (fun t g => g = h1 ∧ pairOk1 M a b ∧ get 1 t = .p id 0 0 1 ∧ get 3 t = .i .i64 (M.length : Int) ∧ get 5 t = .i .i64 (a : Int) ∧ get 6 t = .i .i64 (b : Int)) ?_ ?_
  · refine Ok.forget (fun t => get 1 t = .p id 0 0 1 ∧ get 3 t = .i .i64 (M.length : Int) ∧ get 5 t = .i .i64 (a : Int) ∧ get 6 t = .i .i64 (b : Int)) ⟨by simp (disch := omega) only [evs, Nat.reduceEqDiff, Nat.reduceLT, reduceIte, cond_true, cond_false, List.map_cons, List.map_nil, Nat.reduceAdd, f1], by simp (disch := omega) only [evs, Nat.reduceEqDiff, Nat.reduceLT, reduceIte, cond_true, cond_false, List.map_cons, List.map_nil, Nat.reduceAdd, f3], by simp (disch := omega) only [evs, Nat.reduceEqDiff, Nat.reduceLT, reduceIte, cond_true, cond_false, List.map_cons, List.map_nil, Nat.reduceAdd, f5], by simp (disch := omega) only [evs, Nat.reduceEqDiff, Nat.reduceLT, reduceIte, cond_true, cond_false, List.map_cons, List.map_nil, Nat.reduceAdd, f6]⟩ ?_
    clear f1 f3 f5 f6
    rintro t ⟨f1, f3, f5, f6⟩
    cases d3 : decide ((a : Int) = (b : Int)) with
    | true =>
      have e3 := of_decide_eq_true d3
      have hab : a = b := by omega
      cases x : (M.getD a []).getD a false with
      | false =>
        repeat (first
          | ((first | apply Ops.op | apply Ops.op0 | apply Drs.bar | apply Drs.pure); case e => (intro k; simp (disch := omega) only [evs, Nat.reduceEqDiff, Nat.reduceLT, reduceIte, cond_true, cond_false, Nat.reduceAdd, f1, f3, f5, f6, d3, hrow.rd1, hM.idx, lda, hra.idx, hra.rd, x]; rfl))
          | ((first | apply Ops.g1 | apply Drs.g1); case e => (simp (disch := omega) only [evs, Nat.reduceEqDiff, Nat.reduceLT, reduceIte, f1, f3, f5, f6, d3, hrow.rd1, hM.idx, lda, hra.idx, hra.rd, x]))
          | ((first | apply Ops.g0t | apply Ops.g0f | apply Drs.g0t | apply Drs.g0f); case e => (simp (disch := omega) only [evs, Nat.reduceEqDiff, Nat.reduceLT, reduceIte, f1, f3, f5, f6, d3, hrow.rd1, hM.idx, lda, hra.idx, hra.rd, x]))
          | ((first | apply Ops.g0u | apply Drs.g0u); case e => (simp (disch := omega) only [evs, Nat.reduceEqDiff, Nat.reduceLT, reduceIte, f1, f3, f5, f6, d3, hrow.rd1, hM.idx, lda, hra.idx, hra.rd, x]))
          | apply Ok.seq
          | apply Ok.block
          | (apply Ok.ops (S := Sp))
          | (apply Ok.condT; case e => (simp (disch := omega) only [evs, Nat.reduceEqDiff, Nat.reduceLT, reduceIte, f1, f3, f5, f6, d3, hrow.rd1, hM.idx, lda, hra.idx, hra.rd, x]))
          | (apply Ok.condF; case e => (simp (disch := omega) only [evs, Nat.reduceEqDiff, Nat.reduceLT, reduceIte, f1, f3, f5, f6, d3, hrow.rd1, hM.idx, lda, hra.idx, hra.rd, x]))
          | ((first | apply Ops.nil | apply Drs.nil | apply Ok.skip | apply Ok.exit | apply Ok.ret); try simp only [Then_n, Then_e, Then_r, Out_n, Out_e, Out_r, Nat.reduceEqDiff, reduceIte])
          | (apply Ok.drs (S := Sp) hmix)
          )
        refine ⟨_, fun k => res_1 _ _ _ k, ?_⟩
        simp (disch := omega) only [evs, Nat.reduceEqDiff, Nat.reduceLT, reduceIte, cond_true, cond_false, List.map_cons, List.map_nil, Nat.reduceAdd, one_1]
        refine ⟨wrong fun h => ?_, st⟩
        have := h.1.1 hab
        unfold at2 at this
        rw [x] at this; cases this
      | true =>
        repeat (first
          | ((first | apply Ops.op | apply Ops.op0 | apply Drs.bar | apply Drs.pure); case e => (intro k; simp (disch := omega) only [evs, Nat.reduceEqDiff, Nat.reduceLT, reduceIte, cond_true, cond_false, Nat.reduceAdd, f1, f3, f5, f6, d3, hrow.rd1, hM.idx, lda, hra.idx, hra.rd, x]; rfl))
          | ((first | apply Ops.g1 | apply Drs.g1); case e => (simp (disch := omega) only [evs, Nat.reduceEqDiff, Nat.reduceLT, reduceIte, f1, f3, f5, f6, d3, hrow.rd1, hM.idx, lda, hra.idx, hra.rd, x]))
          | ((first | apply Ops.g0t | apply Ops.g0f | apply Drs.g0t | apply Drs.g0f); case e => (simp (disch := omega) only [evs, Nat.reduceEqDiff, Nat.reduceLT, reduceIte, f1, f3, f5, f6, d3, hrow.rd1, hM.idx, lda, hra.idx, hra.rd, x]))
          | ((first | apply Ops.g0u | apply Drs.g0u); case e => (simp (disch := omega) only [evs, Nat.reduceEqDiff, Nat.reduceLT, reduceIte, f1, f3, f5, f6, d3, hrow.rd1, hM.idx, lda, hra.idx, hra.rd, x]))
          | apply Ok.seq
          | apply Ok.block
          | (apply Ok.ops (S := Sp))
          | (apply Ok.condT; case e => (simp (disch := omega) only [evs, Nat.reduceEqDiff, Nat.reduceLT, reduceIte, f1, f3, f5, f6, d3, hrow.rd1, hM.idx, lda, hra.idx, hra.rd, x]))
          | (apply Ok.condF; case e => (simp (disch := omega) only [evs, Nat.reduceEqDiff, Nat.reduceLT, reduceIte, f1, f3, f5, f6, d3, hrow.rd1, hM.idx, lda, hra.idx, hra.rd, x]))
          | ((first | apply Ops.nil | apply Drs.nil | apply Ok.skip | apply Ok.exit | apply Ok.ret); try simp only [Then_n, Then_e, Then_r, Out_n, Out_e, Out_r, Nat.reduceEqDiff, reduceIte])
          | (apply Ok.drs (S := Sp) hmix)
          )
        exact ⟨by trivial, ⟨fun _ => x, fun hne => absurd hab hne⟩, by simp (disch := omega) only [evs, Nat.reduceEqDiff, Nat.reduceLT, reduceIte, cond_true, cond_false, List.map_cons, List.map_nil, Nat.reduceAdd, f1], by simp (disch := omega) only [evs, Nat.reduceEqDiff, Nat.reduceLT, reduceIte, cond_true, cond_false, List.map_cons, List.map_nil, Nat.reduceAdd, f3], by simp (disch := omega) only [evs, Nat.reduceEqDiff, Nat.reduceLT, reduceIte, cond_true, cond_false, List.map_cons, List.map_nil, Nat.reduceAdd, f5], by simp (disch := omega) only [evs, Nat.reduceEqDiff, Nat.reduceLT, reduceIte, cond_true, cond_false, List.map_cons, List.map_nil, Nat.reduceAdd, f6]⟩
    | false =>
      have e3 := of_decide_eq_false d3
      have hab : a ≠ b := by omega
      cases x : (M.getD a []).getD b false with
      | false =>
        repeat (first
          | ((first | apply Ops.op | apply Ops.op0 | apply Drs.bar | apply Drs.pure); case e => (intro k; simp (disch := omega) only [evs, Nat.reduceEqDiff, Nat.reduceLT, reduceIte, cond_true, cond_false, Nat.reduceAdd, f1, f3, f5, f6, d3, hrow.rd1, hM.idx, lda, hra.idx, hra.rd, x]; rfl))
          | ((first | apply Ops.g1 | apply Drs.g1); case e => (simp (disch := omega) only [evs, Nat.reduceEqDiff, Nat.reduceLT, reduceIte, f1, f3, f5, f6, d3, hrow.rd1, hM.idx, lda, hra.idx, hra.rd, x]))
          | ((first | apply Ops.g0t | apply Ops.g0f | apply Drs.g0t | apply Drs.g0f); case e => (simp (disch := omega) only [evs, Nat.reduceEqDiff, Nat.reduceLT, reduceIte, f1, f3, f5, f6, d3, hrow.rd1, hM.idx, lda, hra.idx, hra.rd, x]))
          | ((first | apply Ops.g0u | apply Drs.g0u); case e => (simp (disch := omega) only [evs, Nat.reduceEqDiff, Nat.reduceLT, reduceIte, f1, f3, f5, f6, d3, hrow.rd1, hM.idx, lda, hra.idx, hra.rd, x]))
          | apply Ok.seq
          | apply Ok.block
          | (apply Ok.ops (S := Sp))
          | (apply Ok.condT; case e => (simp (disch := omega) only [evs, Nat.reduceEqDiff, Nat.reduceLT, reduceIte, f1, f3, f5, f6, d3, hrow.rd1, hM.idx, lda, hra.idx, hra.rd, x]))
          | (apply Ok.condF; case e => (simp (disch := omega) only [evs, Nat.reduceEqDiff, Nat.reduceLT, reduceIte, f1, f3, f5, f6, d3, hrow.rd1, hM.idx, lda, hra.idx, hra.rd, x]))
          | ((first | apply Ops.nil | apply Drs.nil | apply Ok.skip | apply Ok.exit | apply Ok.ret); try simp only [Then_n, Then_e, Then_r, Out_n, Out_e, Out_r, Nat.reduceEqDiff, reduceIte])
          | (apply Ok.drs (S := Sp) hmix)
          )
        refine ⟨by trivial, ⟨fun h => absurd h hab, fun _ h => ?_⟩, by simp (disch := omega) only [evs, Nat.reduceEqDiff, Nat.reduceLT, reduceIte, cond_true, cond_false, List.map_cons, List.map_nil, Nat.reduceAdd, f1], by simp (disch := omega) only [evs, Nat.reduceEqDiff, Nat.reduceLT, reduceIte, cond_true, cond_false, List.map_cons, List.map_nil, Nat.reduceAdd, f3], by simp (disch := omega) only [evs, Nat.reduceEqDiff, Nat.reduceLT, reduceIte, cond_true, cond_false, List.map_cons, List.map_nil, Nat.reduceAdd, f5], by simp (disch := omega) only [evs, Nat.reduceEqDiff, Nat.reduceLT, reduceIte, cond_true, cond_false, List.map_cons, List.map_nil, Nat.reduceAdd, f6]⟩
        unfold at2 at h
        rw [x] at h; cases h
      | true =>
        cases z : (M.getD b []).getD a false with
        | false =>
          repeat (first
            | ((first | apply Ops.op | apply Ops.op0 | apply Drs.bar | apply Drs.pure); case e => (intro k; simp (disch := omega) only [evs, Nat.reduceEqDiff, Nat.reduceLT, reduceIte, cond_true, cond_false, Nat.reduceAdd, f1, f3, f5, f6, d3, hrow.rd1, hM.idx, lda, hra.idx, hra.rd, ldb, hrb.idx, hrb.rd, x, z]; rfl))
            | ((first | apply Ops.g1 | apply Drs.g1); case e => (simp (disch := omega) only [evs, Nat.reduceEqDiff, Nat.reduceLT, reduceIte, f1, f3, f5, f6, d3, hrow.rd1, hM.idx, lda, hra.idx, hra.rd, ldb, hrb.idx, hrb.rd, x, z]))
            | ((first | apply Ops.g0t | apply Ops.g0f | apply Drs.g0t | apply Drs.g0f); case e => (simp (disch := omega) only [evs, Nat.reduceEqDiff, Nat.reduceLT, reduceIte, f1, f3, f5, f6, d3, hrow.rd1, hM.idx, lda, hra.idx, hra.rd, ldb, hrb.idx, hrb.rd, x, z]))
            | ((first | apply Ops.g0u | apply Drs.g0u); case e => (simp (disch := omega) only [evs, Nat.reduceEqDiff, Nat.reduceLT, reduceIte, f1, f3, f5, f6, d3, hrow.rd1, hM.idx, lda, hra.idx, hra.rd, ldb, hrb.idx, hrb.rd, x, z]))
            | apply Ok.seq
            | apply Ok.block
            | (apply Ok.ops (S := Sp))
            | (apply Ok.condT; case e => (simp (disch := omega) only [evs, Nat.reduceEqDiff, Nat.reduceLT, reduceIte, f1, f3, f5, f6, d3, hrow.rd1, hM.idx, lda, hra.idx, hra.rd, ldb, hrb.idx, hrb.rd, x, z]))
            | (apply Ok.condF; case e => (simp (disch := omega) only [evs, Nat.reduceEqDiff, Nat.reduceLT, reduceIte, f1, f3, f5, f6, d3, hrow.rd1, hM.idx, lda, hra.idx, hra.rd, ldb, hrb.idx, hrb.rd, x, z]))
            | ((first | apply Ops.nil | apply Drs.nil | apply Ok.skip | apply Ok.exit | apply Ok.ret); try simp only [Then_n, Then_e, Then_r, Out_n, Out_e, Out_r, Nat.reduceEqDiff, reduceIte])
            | (apply Ok.drs (S := Sp) hmix)
            )
          exact ⟨by trivial, ⟨fun h => absurd h hab, fun _ _ => z⟩, by simp (disch := omega) only [evs, Nat.reduceEqDiff, Nat.reduceLT, reduceIte, cond_true, cond_false, List.map_cons, List.map_nil, Nat.reduceAdd, f1], by simp (disch := omega) only [evs, Nat.reduceEqDiff, Nat.reduceLT, reduceIte, cond_true, cond_false, List.map_cons, List.map_nil, Nat.reduceAdd, f3], by simp (disch := omega) only [evs, Nat.reduceEqDiff, Nat.reduceLT, reduceIte, cond_true, cond_false, List.map_cons, List.map_nil, Nat.reduceAdd, f5], by simp (disch := omega) only [evs, Nat.reduceEqDiff, Nat.reduceLT, reduceIte, cond_true, cond_false, List.map_cons, List.map_nil, Nat.reduceAdd, f6]⟩
        | true =>
          repeat (first
            | ((first | apply Ops.op | apply Ops.op0 | apply Drs.bar | apply Drs.pure); case e => (intro k; simp (disch := omega) only [evs, Nat.reduceEqDiff, Nat.reduceLT, reduceIte, cond_true, cond_false, Nat.reduceAdd, f1, f3, f5, f6, d3, hrow.rd1, hM.idx, lda, hra.idx, hra.rd, ldb, hrb.idx, hrb.rd, x, z]; rfl))
            | ((first | apply Ops.g1 | apply Drs.g1); case e => (simp (disch := omega) only [evs, Nat.reduceEqDiff, Nat.reduceLT, reduceIte, f1, f3, f5, f6, d3, hrow.rd1, hM.idx, lda, hra.idx, hra.rd, ldb, hrb.idx, hrb.rd, x, z]))
            | ((first | apply Ops.g0t | apply Ops.g0f | apply Drs.g0t | apply Drs.g0f); case e => (simp (disch := omega) only [evs, Nat.reduceEqDiff, Nat.reduceLT, reduceIte, f1, f3, f5, f6, d3, hrow.rd1, hM.idx, lda, hra.idx, hra.rd, ldb, hrb.idx, hrb.rd, x, z]))
            | ((first | apply Ops.g0u | apply Drs.g0u); case e => (simp (disch := omega) only [evs, Nat.reduceEqDiff, Nat.reduceLT, reduceIte, f1, f3, f5, f6, d3, hrow.rd1, hM.idx, lda, hra.idx, hra.rd, ldb, hrb.idx, hrb.rd, x, z]))
            | apply Ok.seq
            | apply Ok.block
            | (apply Ok.ops (S := Sp))
            | (apply Ok.condT; case e => (simp (disch := omega) only [evs, Nat.reduceEqDiff, Nat.reduceLT, reduceIte, f1, f3, f5, f6, d3, hrow.rd1, hM.idx, lda, hra.idx, hra.rd, ldb, hrb.idx, hrb.rd, x, z]))
            | (apply Ok.condF; case e => (simp (disch := omega) only [evs, Nat.reduceEqDiff, Nat.reduceLT, reduceIte, f1, f3, f5, f6, d3, hrow.rd1, hM.idx, lda, hra.idx, hra.rd, ldb, hrb.idx, hrb.rd, x, z]))
            | ((first | apply Ops.nil | apply Drs.nil | apply Ok.skip | apply Ok.exit | apply Ok.ret); try simp only [Then_n, Then_e, Then_r, Out_n, Out_e, Out_r, Nat.reduceEqDiff, reduceIte])
            | (apply Ok.drs (S := Sp) hmix)
            )
          refine ⟨_, fun k => res_1 _ _ _ k, ?_⟩
          simp (disch := omega) only [evs, Nat.reduceEqDiff, Nat.reduceLT, reduceIte, cond_true, cond_false, List.map_cons, List.map_nil, Nat.reduceAdd, one_1]
          refine ⟨wrong fun h => ?_, st⟩
          have := h.1.2 hab x
          unfold at2 at this
          rw [z] at this; cases this
  · clear f1 f3 f5 f6
    rintro t h1 ⟨rfl, hp, f1, f3, f5, f6⟩
    repeat (first
      | ((first | apply Ops.op | apply Ops.op0 | apply Drs.bar | apply Drs.pure); case e => (intro k; simp (disch := omega) only [evs, Nat.reduceEqDiff, Nat.reduceLT, reduceIte, cond_true, cond_false, Nat.reduceAdd, f1, f3, f5, f6]; rfl))
      | ((first | apply Ops.g1 | apply Drs.g1); case e => (simp (disch := omega) only [evs, Nat.reduceEqDiff, Nat.reduceLT, reduceIte, f1, f3, f5, f6]))
      | ((first | apply Ops.g0t | apply Ops.g0f | apply Drs.g0t | apply Drs.g0f); case e => (simp (disch := omega) only [evs, Nat.reduceEqDiff, Nat.reduceLT, reduceIte, f1, f3, f5, f6]))
      | ((first | apply Ops.g0u | apply Drs.g0u); case e => (simp (disch := omega) only [evs, Nat.reduceEqDiff, Nat.reduceLT, reduceIte, f1, f3, f5, f6]))
      | apply Ok.seq
      | apply Ok.block
      | (apply Ok.ops (S := Sp))
      | (apply Ok.condT; case e => (simp (disch := omega) only [evs, Nat.reduceEqDiff, Nat.reduceLT, reduceIte, f1, f3, f5, f6]))
      | (apply Ok.condF; case e => (simp (disch := omega) only [evs, Nat.reduceEqDiff, Nat.reduceLT, reduceIte, f1, f3, f5, f6]))
      | ((first | apply Ops.nil | apply Drs.nil | apply Ok.skip | apply Ok.exit | apply Ok.ret); try simp only [Then_n, Then_e, Then_r, Out_n, Out_e, Out_r, Nat.reduceEqDiff, reduceIte])
      | (apply Ok.drs (S := Sp) hmix)
      )
    refine Ok.loop (fun m t g => ∃ c : Nat, c ≤ M.length ∧ m = M.length - c ∧ g = h1 ∧ get 1 t = .p id 0 0 1 ∧ get 3 t = .i .i64 (M.length : Int) ∧ get 5 t = .i .i64 (a : Int) ∧ get 6 t = .i .i64 (b : Int) ∧ get 7 t = .i .i64 (c : Int) ∧ ∀ z, z < c → at2 M a b = true → at2 M b z = true → at2 M a z = true) ?_ M.length _ _ ?_
    case refine_2 => exact ⟨0, Nat.zero_le _, rfl, by trivial, by simp (disch := omega) only [evs, Nat.reduceEqDiff, Nat.reduceLT, reduceIte, cond_true, cond_false, List.map_cons, List.map_nil, Nat.reduceAdd, f1], by simp (disch := omega) only [evs, Nat.reduceEqDiff, Nat.reduceLT, reduceIte, cond_true, cond_false, List.map_cons, List.map_nil, Nat.reduceAdd, f3], by simp (disch := omega) only [evs, Nat.reduceEqDiff, Nat.reduceLT, reduceIte, cond_true, cond_false, List.map_cons, List.map_nil, Nat.reduceAdd, f5], by simp (disch := omega) only [evs, Nat.reduceEqDiff, Nat.reduceLT, reduceIte, cond_true, cond_false, List.map_cons, List.map_nil, Nat.reduceAdd, f6], by simp (disch := omega) only [evs, Nat.reduceEqDiff, Nat.reduceLT, reduceIte, cond_true, cond_false, List.map_cons, List.map_nil, Nat.reduceAdd], fun z hz => absurd hz (Nat.not_lt_zero _)⟩
    clear f1 f3 f5 f6
    rintro m t h1 ⟨c, hcM, rfl, rfl, f1, f3, f5, f6, f7, hC⟩
    unfold l16_3
    repeat (first
      | ((first | apply Ops.op | apply Ops.op0 | apply Drs.bar | apply Drs.pure); case e => (intro k; simp (disch := omega) only [evs, Nat.reduceEqDiff, Nat.reduceLT, reduceIte, cond_true, cond_false, Nat.reduceAdd, f1, f3, f5, f6, f7]; rfl))
      | ((first | apply Ops.g1 | apply Drs.g1); case e => (simp (disch := omega) only [evs, Nat.reduceEqDiff, Nat.reduceLT, reduceIte, f1, f3, f5, f6, f7]))
      | ((first | apply Ops.g0t | apply Ops.g0f | apply Drs.g0t | apply Drs.g0f); case e => (simp (disch := omega) only [evs, Nat.reduceEqDiff, Nat.reduceLT, reduceIte, f1, f3, f5, f6, f7]))
      | ((first | apply Ops.g0u | apply Drs.g0u); case e => (simp (disch := omega) only [evs, Nat.reduceEqDiff, Nat.reduceLT, reduceIte, f1, f3, f5, f6, f7]))
      | apply Ok.seq
      | apply Ok.block
      | (apply Ok.ops (S := Sp))
      | (apply Ok.condT; case e => (simp (disch := omega) only [evs, Nat.reduceEqDiff, Nat.reduceLT, reduceIte, f1, f3, f5, f6, f7]))
      | (apply Ok.condF; case e => (simp (disch := omega) only [evs, Nat.reduceEqDiff, Nat.reduceLT, reduceIte, f1, f3, f5, f6, f7]))
      | ((first | apply Ops.nil | apply Drs.nil | apply Ok.skip | apply Ok.exit | apply Ok.ret); try simp only [Then_n, Then_e, Then_r, Out_n, Out_e, Out_r, Nat.reduceEqDiff, reduceIte])
      | (apply Ok.drs (S := Sp) hmix)
      )
    apply Ok.cond
    case hq => (simp (disch := omega) only [evs, Nat.reduceEqDiff, Nat.reduceLT, reduceIte, cond_true, cond_false, List.map_cons, List.map_nil, Nat.reduceAdd, f3, f7]; rfl)
    case hb =>
      intro hc3
      have hc3 := of_decide_eq_false hc3
      have : c = M.length := by omega
      subst this
      repeat (first
        | ((first | apply Ops.op | apply Ops.op0 | apply Drs.bar | apply Drs.pure); case e => (intro k; simp (disch := omega) only [evs, Nat.reduceEqDiff, Nat.reduceLT, reduceIte, cond_true, cond_false, Nat.reduceAdd, f1, f3, f5, f6]; rfl))
        | ((first | apply Ops.g1 | apply Drs.g1); case e => (simp (disch := omega) only [evs, Nat.reduceEqDiff, Nat.reduceLT, reduceIte, f1, f3, f5, f6]))
        | ((first | apply Ops.g0t | apply Ops.g0f | apply Drs.g0t | apply Drs.g0f); case e => (simp (disch := omega) only [evs, Nat.reduceEqDiff, Nat.reduceLT, reduceIte, f1, f3, f5, f6]))
        | ((first | apply Ops.g0u | apply Drs.g0u); case e => (simp (disch := omega) only [evs, Nat.reduceEqDiff, Nat.reduceLT, reduceIte, f1, f3, f5, f6]))
        | apply Ok.seq
        | apply Ok.block
        | (apply Ok.ops (S := Sp))
        | (apply Ok.condT; case e => (simp (disch := omega) only [evs, Nat.reduceEqDiff, Nat.reduceLT, reduceIte, f1, f3, f5, f6]))
        | (apply Ok.condF; case e => (simp (disch := omega) only [evs, Nat.reduceEqDiff, Nat.reduceLT, reduceIte, f1, f3, f5, f6]))
        | ((first | apply Ops.nil | apply Drs.nil | apply Ok.skip | apply Ok.exit | apply Ok.ret); try simp only [Then_n, Then_e, Then_r, Out_n, Out_e, Out_r, Nat.reduceEqDiff, reduceIte])
        | (apply Ok.drs (S := Sp) hmix)
        )
      refine ⟨M.length - (b + 1), by omega, b + 1, by omega, rfl, by trivial, by simp (disch := omega) only [evs, Nat.reduceEqDiff, Nat.reduceLT, reduceIte, cond_true, cond_false, List.map_cons, List.map_nil, Nat.reduceAdd, f1], by simp (disch := omega) only [evs, Nat.reduceEqDiff, Nat.reduceLT, reduceIte, cond_true, cond_false, List.map_cons, List.map_nil, Nat.reduceAdd, f3], by simp (disch := omega) only [evs, Nat.reduceEqDiff, Nat.reduceLT, reduceIte, cond_true, cond_false, List.map_cons, List.map_nil, Nat.reduceAdd, f5], by simp (disch := omega) only [evs, Nat.reduceEqDiff, Nat.reduceLT, reduceIte, cond_true, cond_false, List.map_cons, List.map_nil, Nat.reduceAdd, f6, Int.natCast_add, Int.natCast_one], fun y hy => ?_⟩
      rcases Nat.lt_or_ge y b with h7 | h7
      · exact hB y h7
      · have : y = b := by omega
        subst this; exact ⟨hp, hC⟩
    case ha =>
    intro hc3
    have hc3 := of_decide_eq_true hc3
    have hcM' : c < M.length := by omega
    have next : (at2 M a b = true → at2 M b c = true → at2 M a c = true) → ∀ z, z < c + 1 → at2 M a b = true → at2 M b z = true → at2 M a z = true := fun h z hz => by
      rcases Nat.lt_or_ge z c with h7 | h7
      · exact hC z h7
      · have : z = c := by omega
        subst this; exact h
    cases x : (M.getD a []).getD b false with
    | false =>
      repeat (first
        | ((first | apply Ops.op | apply Ops.op0 | apply Drs.bar | apply Drs.pure); case e => (intro k; simp (disch := omega) only [evs, Nat.reduceEqDiff, Nat.reduceLT, reduceIte, cond_true, cond_false, Nat.reduceAdd, f1, f3, f5, f6, f7, hrow.rd1, hM.idx, lda, hra.idx, hra.rd, x]; rfl))
        | ((first | apply Ops.g1 | apply Drs.g1); case e => (simp (disch := omega) only [evs, Nat.reduceEqDiff, Nat.reduceLT, reduceIte, f1, f3, f5, f6, f7, hrow.rd1, hM.idx, lda, hra.idx, hra.rd, x]))
        | ((first | apply Ops.g0t | apply Ops.g0f | apply Drs.g0t | apply Drs.g0f); case e => (simp (disch := omega) only [evs, Nat.reduceEqDiff, Nat.reduceLT, reduceIte, f1, f3, f5, f6, f7, hrow.rd1, hM.idx, lda, hra.idx, hra.rd, x]))
        | ((first | apply Ops.g0u | apply Drs.g0u); case e => (simp (disch := omega) only [evs, Nat.reduceEqDiff, Nat.reduceLT, reduceIte, f1, f3, f5, f6, f7, hrow.rd1, hM.idx, lda, hra.idx, hra.rd, x]))
        | apply Ok.seq
        | apply Ok.block
        | (apply Ok.ops (S := Sp))
        | (apply Ok.condT; case e => (simp (disch := omega) only [evs, Nat.reduceEqDiff, Nat.reduceLT, reduceIte, f1, f3, f5, f6, f7, hrow.rd1, hM.idx, lda, hra.idx, hra.rd, x]))
        | (apply Ok.condF; case e => (simp (disch := omega) only [evs, Nat.reduceEqDiff, Nat.reduceLT, reduceIte, f1, f3, f5, f6, f7, hrow.rd1, hM.idx, lda, hra.idx, hra.rd, x]))
        | ((first | apply Ops.nil | apply Drs.nil | apply Ok.skip | apply Ok.exit | apply Ok.ret); try simp only [Then_n, Then_e, Then_r, Out_n, Out_e, Out_r, Nat.reduceEqDiff, reduceIte])
        | (apply Ok.drs (S := Sp) hmix)
        )
      exact ⟨M.length - (c + 1), by omega, c + 1, by omega, rfl, by trivial, by simp (disch := omega) only [evs, Nat.reduceEqDiff, Nat.reduceLT, reduceIte, cond_true, cond_false, List.map_cons, List.map_nil, Nat.reduceAdd, f1], by simp (disch := omega) only [evs, Nat.reduceEqDiff, Nat.reduceLT, reduceIte, cond_true, cond_false, List.map_cons, List.map_nil, Nat.reduceAdd, f3], by simp (disch := omega) only [evs, Nat.reduceEqDiff, Nat.reduceLT, reduceIte, cond_true, cond_false, List.map_cons, List.map_nil, Nat.reduceAdd, f5], by simp (disch := omega) only [evs, Nat.reduceEqDiff, Nat.reduceLT, reduceIte, cond_true, cond_false, List.map_cons, List.map_nil, Nat.reduceAdd, f6], by simp (disch := omega) only [evs, Nat.reduceEqDiff, Nat.reduceLT, reduceIte, cond_true, cond_false, List.map_cons, List.map_nil, Nat.reduceAdd, f7, Int.natCast_add, Int.natCast_one], next fun h => by unfold at2 at h; rw [x] at h; cases h⟩
    | true =>
      cases y : (M.getD b []).getD c false with
      | false =>
        repeat (first
          | ((first | apply Ops.op | apply Ops.op0 | apply Drs.bar | apply Drs.pure); case e => (intro k; simp (disch := omega) only [evs, Nat.reduceEqDiff, Nat.reduceLT, reduceIte, cond_true, cond_false, Nat.reduceAdd, f1, f3, f5, f6, f7, hrow.rd1, hM.idx, lda, hra.idx, hra.rd, ldb, hrb.idx, hrb.rd, x, y]; rfl))
          | ((first | apply Ops.g1 | apply Drs.g1); case e => (simp (disch := omega) only [evs, Nat.reduceEqDiff, Nat.reduceLT, reduceIte, f1, f3, f5, f6, f7, hrow.rd1, hM.idx, lda, hra.idx, hra.rd, ldb, hrb.idx, hrb.rd, x, y]))
          | ((first | apply Ops.g0t | apply Ops.g0f | apply Drs.g0t | apply Drs.g0f); case e => (simp (disch := omega) only [evs, Nat.reduceEqDiff, Nat.reduceLT, reduceIte, f1, f3, f5, f6, f7, hrow.rd1, hM.idx, lda, hra.idx, hra.rd, ldb, hrb.idx, hrb.rd, x, y]))
          | ((first | apply Ops.g0u | apply Drs.g0u); case e => (simp (disch := omega) only [evs, Nat.reduceEqDiff, Nat.reduceLT, reduceIte, f1, f3, f5, f6, f7, hrow.rd1, hM.idx, lda, hra.idx, hra.rd, ldb, hrb.idx, hrb.rd, x, y]))
          | apply Ok.seq
          | apply Ok.block
          | (apply Ok.ops (S := Sp))
          | (apply Ok.condT; case e => (simp (disch := omega) only [evs, Nat.reduceEqDiff, Nat.reduceLT, reduceIte, f1, f3, f5, f6, f7, hrow.rd1, hM.idx, lda, hra.idx, hra.rd, ldb, hrb.idx, hrb.rd, x, y]))
          | (apply Ok.condF; case e => (simp (disch := omega) only [evs, Nat.reduceEqDiff, Nat.reduceLT, reduceIte, f1, f3, f5, f6, f7, hrow.rd1, hM.idx, lda, hra.idx, hra.rd, ldb, hrb.idx, hrb.rd, x, y]))
          | ((first | apply Ops.nil | apply Drs.nil | apply Ok.skip | apply Ok.exit | apply Ok.ret); try simp only [Then_n, Then_e, Then_r, Out_n, Out_e, Out_r, Nat.reduceEqDiff, reduceIte])
          | (apply Ok.drs (S := Sp) hmix)
          )
        exact ⟨M.length - (c + 1), by omega, c + 1, by omega, rfl, by trivial, by simp (disch := omega) only [evs, Nat.reduceEqDiff, Nat.reduceLT, reduceIte, cond_true, cond_false, List.map_cons, List.map_nil, Nat.reduceAdd, f1], by simp (disch := omega) only [evs, Nat.reduceEqDiff, Nat.reduceLT, reduceIte, cond_true, cond_false, List.map_cons, List.map_nil, Nat.reduceAdd, f3], by simp (disch := omega) only [evs, Nat.reduceEqDiff, Nat.reduceLT, reduceIte, cond_true, cond_false, List.map_cons, List.map_nil, Nat.reduceAdd, f5], by simp (disch := omega) only [evs, Nat.reduceEqDiff, Nat.reduceLT, reduceIte, cond_true, cond_false, List.map_cons, List.map_nil, Nat.reduceAdd, f6], by simp (disch := omega) only [evs, Nat.reduceEqDiff, Nat.reduceLT, reduceIte, cond_true, cond_false, List.map_cons, List.map_nil, Nat.reduceAdd, f7, Int.natCast_add, Int.natCast_one], next fun _ h => by unfold at2 at h; rw [y] at h; cases h⟩
      | true =>
        cases z : (M.getD a []).getD c false with
        | true =>
          repeat (first
            | ((first | apply Ops.op | apply Ops.op0 | apply Drs.bar | apply Drs.pure); case e => (intro k; simp (disch := omega) only [evs, Nat.reduceEqDiff, Nat.reduceLT, reduceIte, cond_true, cond_false, Nat.reduceAdd, f1, f3, f5, f6, f7, hrow.rd1, hM.idx, lda, hra.idx, hra.rd, ldb, hrb.idx, hrb.rd, x, y, z]; rfl))
            | ((first | apply Ops.g1 | apply Drs.g1); case e => (simp (disch := omega) only [evs, Nat.reduceEqDiff, Nat.reduceLT, reduceIte, f1, f3, f5, f6, f7, hrow.rd1, hM.idx, lda, hra.idx, hra.rd, ldb, hrb.idx, hrb.rd, x, y, z]))
            | ((first | apply Ops.g0t | apply Ops.g0f | apply Drs.g0t | apply Drs.g0f); case e => (simp (disch := omega) only [evs, Nat.reduceEqDiff, Nat.reduceLT, reduceIte, f1, f3, f5, f6, f7, hrow.rd1, hM.idx, lda, hra.idx, hra.rd, ldb, hrb.idx, hrb.rd, x, y, z]))
            | ((first | apply Ops.g0u | apply Drs.g0u); case e => (simp (disch := omega) only [evs, Nat.reduceEqDiff, Nat.reduceLT, reduceIte, f1, f3, f5, f6, f7, hrow.rd1, hM.idx, lda, hra.idx, hra.rd, ldb, hrb.idx, hrb.rd, x, y, z]))
            | apply Ok.seq
            | apply Ok.block
            | (apply Ok.ops (S := Sp))
            | (apply Ok.condT; case e => (simp (disch := omega) only [evs, Nat.reduceEqDiff, Nat.reduceLT, reduceIte, f1, f3, f5, f6, f7, hrow.rd1, hM.idx, lda, hra.idx, hra.rd, ldb, hrb.idx, hrb.rd, x, y, z]))
            | (apply Ok.condF; case e => (simp (disch := omega) only [evs, Nat.reduceEqDiff, Nat.reduceLT, reduceIte, f1, f3, f5, f6, f7, hrow.rd1, hM.idx, lda, hra.idx, hra.rd, ldb, hrb.idx, hrb.rd, x, y, z]))
            | ((first | apply Ops.nil | apply Drs.nil | apply Ok.skip | apply Ok.exit | apply Ok.ret); try simp only [Then_n, Then_e, Then_r, Out_n, Out_e, Out_r, Nat.reduceEqDiff, reduceIte])
            | (apply Ok.drs (S := Sp) hmix)
            )
          exact ⟨M.length - (c + 1), by omega, c + 1, by omega, rfl, by trivial, by simp (disch := omega) only [evs, Nat.reduceEqDiff, Nat.reduceLT, reduceIte, cond_true, cond_false, List.map_cons, List.map_nil, Nat.reduceAdd, f1], by simp (disch := omega) only [evs, Nat.reduceEqDiff, Nat.reduceLT, reduceIte, cond_true, cond_false, List.map_cons, List.map_nil, Nat.reduceAdd, f3], by simp (disch := omega) only [evs, Nat.reduceEqDiff, Nat.reduceLT, reduceIte, cond_true, cond_false, List.map_cons, List.map_nil, Nat.reduceAdd, f5], by simp (disch := omega) only [evs, Nat.reduceEqDiff, Nat.reduceLT, reduceIte, cond_true, cond_false, List.map_cons, List.map_nil, Nat.reduceAdd, f6], by simp (disch := omega) only [evs, Nat.reduceEqDiff, Nat.reduceLT, reduceIte, cond_true, cond_false, List.map_cons, List.map_nil, Nat.reduceAdd, f7, Int.natCast_add, Int.natCast_one], next fun _ _ => z⟩
        | false =>
          repeat (first
            | ((first | apply Ops.op | apply Ops.op0 | apply Drs.bar | apply Drs.pure); case e => (intro k; simp (disch := omega) only [evs, Nat.reduceEqDiff, Nat.reduceLT, reduceIte, cond_true, cond_false, Nat.reduceAdd, f1, f3, f5, f6, f7, hrow.rd1, hM.idx, lda, hra.idx, hra.rd, ldb, hrb.idx, hrb.rd, x, y, z]; rfl))
            | ((first | apply Ops.g1 | apply Drs.g1); case e => (simp (disch := omega) only [evs, Nat.reduceEqDiff, Nat.reduceLT, reduceIte, f1, f3, f5, f6, f7, hrow.rd1, hM.idx, lda, hra.idx, hra.rd, ldb, hrb.idx, hrb.rd, x, y, z]))
            | ((first | apply Ops.g0t | apply Ops.g0f | apply Drs.g0t | apply Drs.g0f); case e => (simp (disch := omega) only [evs, Nat.reduceEqDiff, Nat.reduceLT, reduceIte, f1, f3, f5, f6, f7, hrow.rd1, hM.idx, lda, hra.idx, hra.rd, ldb, hrb.idx, hrb.rd, x, y, z]))
            | ((first | apply Ops.g0u | apply Drs.g0u); case e => (simp (disch := omega) only [evs, Nat.reduceEqDiff, Nat.reduceLT, reduceIte, f1, f3, f5, f6, f7, hrow.rd1, hM.idx, lda, hra.idx, hra.rd, ldb, hrb.idx, hrb.rd, x, y, z]))
            | apply Ok.seq
            | apply Ok.block
            | (apply Ok.ops (S := Sp))
            | (apply Ok.condT; case e => (simp (disch := omega) only [evs, Nat.reduceEqDiff, Nat.reduceLT, reduceIte, f1, f3, f5, f6, f7, hrow.rd1, hM.idx, lda, hra.idx, hra.rd, ldb, hrb.idx, hrb.rd, x, y, z]))
            | (apply Ok.condF; case e => (simp (disch := omega) only [evs, Nat.reduceEqDiff, Nat.reduceLT, reduceIte, f1, f3, f5, f6, f7, hrow.rd1, hM.idx, lda, hra.idx, hra.rd, ldb, hrb.idx, hrb.rd, x, y, z]))
            | ((first | apply Ops.nil | apply Drs.nil | apply Ok.skip | apply Ok.exit | apply Ok.ret); try simp only [Then_n, Then_e, Then_r, Out_n, Out_e, Out_r, Nat.reduceEqDiff, reduceIte])
            | (apply Ok.drs (S := Sp) hmix)
            )
          refine ⟨_, fun k => res_1 _ _ _ k, ?_⟩
          simp (disch := omega) only [evs, Nat.reduceEqDiff, Nat.reduceLT, reduceIte, cond_true, cond_false, List.map_cons, List.map_nil, Nat.reduceAdd, one_1]
          refine ⟨wrong fun h => ?_, st⟩
          have := h.2 c hcM' x y
          unfold at2 at this
          rw [z] at this; cases this
end Go.Proofs.Ytpnflehemjbemaa
