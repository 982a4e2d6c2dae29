/- The document's Levels, Dom, Above, Below, Join of a lattice, by what they compute. No condition. -/
import Derived.Test.YtpnflehemjbemaaLat15
import Derived.Test.YtpnflehemjbemaaLatN
import Derived.Test.YtpnflehemjbemaaLat14
set_option maxRecDepth 100000
set_option maxHeartbeats 8000000
set_option linter.all false
namespace Go.Proofs.Ytpnflehemjbemaa
open Go Go.Ev

/-- what each call makes -/
def SR (v : V) (M : Mt) : Ev.Spec := fun f vs hh y h' => match f with
  | 11 => y = .b true ∧ h' = hh
  | 12 => y = .b (fewB M) ∧ Stay nowhere hh h'
  | 16 => y = .i .i64 (chkN M : Nat) ∧ Stay nowhere hh h'
  | 15 => y = .i .i64 (chkN M : Nat) ∧ Stay nowhere hh h'
  | 18 => y = .i .i64 (lvls M : Nat) ∧ Stay nowhere hh h'
  | 17 => y = .i .i64 (lvls M : Nat) ∧ Stay nowhere hh h'
  | 20 => ∀ a b, vs = [.a [v], .i .i64 a, .i .i64 b] → y = .b (domB M a b) ∧ Stay nowhere hh h'
  | 19 => ∀ a b, vs = [.a [v], .i .i64 a, .i .i64 b] → y = .b (domB M a b) ∧ Stay nowhere hh h'
  | 22 => ∀ a b, vs = [.a [v], .i .i64 a, .i .i64 b] → y = .b (aboveB M a b) ∧ Stay nowhere hh h'
  | 21 => ∀ a b, vs = [.a [v], .i .i64 a, .i .i64 b] → y = .b (aboveB M a b) ∧ Stay nowhere hh h'
  | 25 => ∀ a, vs = [.a [v], .i .i64 a] → Ib h' (B.val hh.next) 3 y (belowL M a) ∧ Stay nowhere hh h'
  | 24 => ∀ a, vs = [.a [v], .i .i64 a] → Ib h' (B.val hh.next) 3 y (belowL M a) ∧ Stay nowhere hh h'
  | 27 => ∀ a, vs = [.a [v], .i .i64 a] → Ib h' (B.val hh.next) 3 y (coversL M a) ∧ Stay nowhere hh h'
  | 26 => ∀ a, vs = [.a [v], .i .i64 a] → Ib h' (B.val hh.next) 3 y (coversL M a) ∧ Stay nowhere hh h'
  | 29 => Il h' y (orderL M) ∧ Stay nowhere hh h'
  | 28 => Il h' y (orderL M) ∧ Stay nowhere hh h'
  | 14 => ∀ a b, vs = [.a [v], .i .i64 a, .i .i64 b] → y = .tu [.i .i64 (joinP M a b).1, .b (joinP M a b).2] ∧ Stay nowhere hh h'
  | 13 => ∀ a b, vs = [.a [v], .i .i64 a, .i .i64 b] → y = .tu [.i .i64 (joinP M a b).1, .b (joinP M a b).2] ∧ Stay nowhere hh h'
  | _ => True
section
variable {h : H} {v : V} {M : Mt}
theorem sr_rcheck (hM : Mx h v M) (hs : M.length ≤ 1000000) (hrl : ∀ i, i < M.length → (M.getD i []).length ≤ 1000000) : FnOk Try.prog 16 [.a [v]] h (SR v M 16 [.a [v]] h) := rcheck_ok hM hs hrl

theorem rlevels_ok (hM : Mx h v M) (hs : M.length ≤ 1000000) (hrl : ∀ i, i < M.length → (M.getD i []).length ≤ 1000000) : FnOk Try.prog 18 [.a [v]] h fun y h' => y = .i .i64 (lvls M : Nat) ∧ Stay nowhere h h' := by
  refine fn_run c18 (by intro hb; cases hb) (by simp) (by simp) ?_
  simp only [slotsF, Nat.reduceAdd]
  unfold b18
  obtain ⟨Sx, hSx⟩ : ∃ S, S = SR v M := ⟨_, rfl⟩
  repeat (first
    | ((first | apply Ops.op | apply Ops.op0 | apply Drs.bar | apply Drs.pure); case e => (intro k; simp (disch := omega) only [evs, Nat.reduceEqDiff, Nat.reduceLT, reduceIte, cond_true, cond_false, Nat.reduceAdd]; rfl))
    | ((first | apply Ops.g1 | apply Drs.g1); case e => (simp (disch := omega) only [evs, Nat.reduceEqDiff, Nat.reduceLT, reduceIte]))
    | ((first | apply Ops.g0t | apply Ops.g0f | apply Drs.g0t | apply Drs.g0f); case e => (simp (disch := omega) only [evs, Nat.reduceEqDiff, Nat.reduceLT, reduceIte]))
    | ((first | apply Ops.g0u | apply Drs.g0u); case e => (simp (disch := omega) only [evs, Nat.reduceEqDiff, Nat.reduceLT, reduceIte]))
    | apply Ok.seq
    | apply Ok.block
    | (apply Ok.ops (S := Sp))
    | (apply Ok.condT; case e => (simp (disch := omega) only [evs, Nat.reduceEqDiff, Nat.reduceLT, reduceIte]))
    | (apply Ok.condF; case e => (simp (disch := omega) only [evs, Nat.reduceEqDiff, Nat.reduceLT, reduceIte]))
    | ((first | apply Ops.nil | apply Drs.nil | apply Ok.skip | apply Ok.exit | apply Ok.ret); try simp only [Then_n, Then_e, Then_r, Out_n, Out_e, Out_r, Nat.reduceEqDiff, reduceIte])
    | (apply Ok.drs (S := Sp) hmix)
    )
  apply Ops.box1
  case e => (simp (disch := omega) only [evs, Nat.reduceEqDiff, Nat.reduceLT, reduceIte, cond_true, cond_false, List.map_cons, List.map_nil, Nat.reduceAdd]; rfl)
  case k =>
    intro h1 id st hlt hge hrow
    have hM1 := hM.grow st
    repeat (first
      | ((first | apply Ops.op | apply Ops.op0 | apply Drs.bar | apply Drs.pure); case e => (intro k; simp (disch := omega) only [evs, Nat.reduceEqDiff, Nat.reduceLT, reduceIte, cond_true, cond_false, Nat.reduceAdd, hrow.rd1, hrow.rdA]; rfl))
      | ((first | apply Ops.g1 | apply Drs.g1); case e => (simp (disch := omega) only [evs, Nat.reduceEqDiff, Nat.reduceLT, reduceIte, hrow.rd1, hrow.rdA]))
      | ((first | apply Ops.g0t | apply Ops.g0f | apply Drs.g0t | apply Drs.g0f); case e => (simp (disch := omega) only [evs, Nat.reduceEqDiff, Nat.reduceLT, reduceIte, hrow.rd1, hrow.rdA]))
      | ((first | apply Ops.g0u | apply Drs.g0u); case e => (simp (disch := omega) only [evs, Nat.reduceEqDiff, Nat.reduceLT, reduceIte, hrow.rd1, hrow.rdA]))
      | apply Ok.seq
      | apply Ok.block
      | (apply Ok.ops (S := Sx))
      | (apply Ok.condT; case e => (simp (disch := omega) only [evs, Nat.reduceEqDiff, Nat.reduceLT, reduceIte, hrow.rd1, hrow.rdA]))
      | (apply Ok.condF; case e => (simp (disch := omega) only [evs, Nat.reduceEqDiff, Nat.reduceLT, reduceIte, hrow.rd1, hrow.rdA]))
      | ((first | apply Ops.nil | apply Drs.nil | apply Ok.skip | apply Ok.exit | apply Ok.ret); try simp only [Then_n, Then_e, Then_r, Out_n, Out_e, Out_r, Nat.reduceEqDiff, reduceIte])
      | (apply Ok.drs (S := Sx) hmix)
      )
    apply Ops.call
    case e => (simp (disch := omega) only [evs, Nat.reduceEqDiff, Nat.reduceLT, reduceIte, cond_true, cond_false, List.map_cons, List.map_nil, Nat.reduceAdd]; rfl)
    case hf => rw [hSx]; exact sr_rcheck hM1 hs hrl
    case k =>
      rw [hSx]
      rintro y h2 ⟨rfl, st2⟩
      have hrow2 := hrow.grow st2 hlt
      have hM2 := hM1.grow st2
      by_cases hc : chkN M = 0
      · have d : decide (((chkN M : Nat) : Int) = 0) = true := decide_eq_true (by omega)
        repeat (first
          | ((first | apply Ops.op | apply Ops.op0 | apply Drs.bar | apply Drs.pure); case e => (intro k; simp (disch := omega) only [evs, Nat.reduceEqDiff, Nat.reduceLT, reduceIte, cond_true, cond_false, Nat.reduceAdd, hrow2.rd1, d, hM2.len]; rfl))
          | ((first | apply Ops.g1 | apply Drs.g1); case e => (simp (disch := omega) only [evs, Nat.reduceEqDiff, Nat.reduceLT, reduceIte, hrow2.rd1, d, hM2.len]))
          | ((first | apply Ops.g0t | apply Ops.g0f | apply Drs.g0t | apply Drs.g0f); case e => (simp (disch := omega) only [evs, Nat.reduceEqDiff, Nat.reduceLT, reduceIte, hrow2.rd1, d, hM2.len]))
          | ((first | apply Ops.g0u | apply Drs.g0u); case e => (simp (disch := omega) only [evs, Nat.reduceEqDiff, Nat.reduceLT, reduceIte, hrow2.rd1, d, hM2.len]))
          | apply Ok.seq
          | apply Ok.block
          | (apply Ok.ops (S := Sp))
          | (apply Ok.condT; case e => (simp (disch := omega) only [evs, Nat.reduceEqDiff, Nat.reduceLT, reduceIte, hrow2.rd1, d, hM2.len]))
          | (apply Ok.condF; case e => (simp (disch := omega) only [evs, Nat.reduceEqDiff, Nat.reduceLT, reduceIte, hrow2.rd1, d, hM2.len]))
          | ((first | apply Ops.nil | apply Drs.nil | apply Ok.skip | apply Ok.exit | apply Ok.ret); try simp only [Then_n, Then_e, Then_r, Out_n, Out_e, Out_r, Nat.reduceEqDiff, reduceIte])
          | (apply Ok.drs (S := Sp) hmix)
          )
        refine ⟨_, fun k => res_1 _ _ _ k, ?_⟩
        simp (disch := omega) only [evs, Nat.reduceEqDiff, Nat.reduceLT, reduceIte, cond_true, cond_false, List.map_cons, List.map_nil, Nat.reduceAdd, one_1]
        exact ⟨by simp [lvls, hc], st.trans st2⟩
      · have d : decide (((chkN M : Nat) : Int) = 0) = false := decide_eq_false (by omega)
        repeat (first
          | ((first | apply Ops.op | apply Ops.op0 | apply Drs.bar | apply Drs.pure); case e => (intro k; simp (disch := omega) only [evs, Nat.reduceEqDiff, Nat.reduceLT, reduceIte, cond_true, cond_false, Nat.reduceAdd, hrow2.rd1, d, hM2.len]; rfl))
          | ((first | apply Ops.g1 | apply Drs.g1); case e => (simp (disch := omega) only [evs, Nat.reduceEqDiff, Nat.reduceLT, reduceIte, hrow2.rd1, d, hM2.len]))
          | ((first | apply Ops.g0t | apply Ops.g0f | apply Drs.g0t | apply Drs.g0f); case e => (simp (disch := omega) only [evs, Nat.reduceEqDiff, Nat.reduceLT, reduceIte, hrow2.rd1, d, hM2.len]))
          | ((first | apply Ops.g0u | apply Drs.g0u); case e => (simp (disch := omega) only [evs, Nat.reduceEqDiff, Nat.reduceLT, reduceIte, hrow2.rd1, d, hM2.len]))
          | apply Ok.seq
          | apply Ok.block
          | (apply Ok.ops (S := Sp))
          | (apply Ok.condT; case e => (simp (disch := omega) only [evs, Nat.reduceEqDiff, Nat.reduceLT, reduceIte, hrow2.rd1, d, hM2.len]))
          | (apply Ok.condF; case e => (simp (disch := omega) only [evs, Nat.reduceEqDiff, Nat.reduceLT, reduceIte, hrow2.rd1, d, hM2.len]))
          | ((first | apply Ops.nil | apply Drs.nil | apply Ok.skip | apply Ok.exit | apply Ok.ret); try simp only [Then_n, Then_e, Then_r, Out_n, Out_e, Out_r, Nat.reduceEqDiff, reduceIte])
          | (apply Ok.drs (S := Sp) hmix)
          )
        refine ⟨_, fun k => res_1 _ _ _ k, ?_⟩
        simp (disch := omega) only [evs, Nat.reduceEqDiff, Nat.reduceLT, reduceIte, cond_true, cond_false, List.map_cons, List.map_nil, Nat.reduceAdd, one_1]
        exact ⟨by simp [lvls, hc], st.trans st2⟩
theorem sr_rlevels (hM : Mx h v M) (hs : M.length ≤ 1000000) (hrl : ∀ i, i < M.length → (M.getD i []).length ≤ 1000000) : FnOk Try.prog 18 [.a [v]] h (SR v M 18 [.a [v]] h) := rlevels_ok hM hs hrl

theorem rdom_ok (hM : Mx h v M) (hs : M.length ≤ 1000000) (hrl : ∀ i, i < M.length → (M.getD i []).length ≤ 1000000) (a b : Int) : FnOk Try.prog 20 [.a [v], .i .i64 a, .i .i64 b] h fun y h' => y = .b (domB M a b) ∧ Stay nowhere h h' := by
  refine fn_run c20 (by intro hb; cases hb) (by simp) (by simp) ?_
  simp only [slotsF, Nat.reduceAdd]
  unfold b20
  obtain ⟨Sx, hSx⟩ : ∃ S, S = SR v M := ⟨_, rfl⟩
  repeat (first
    | ((first | apply Ops.op | apply Ops.op0 | apply Drs.bar | apply Drs.pure); case e => (intro k; simp (disch := omega) only [evs, Nat.reduceEqDiff, Nat.reduceLT, reduceIte, cond_true, cond_false, Nat.reduceAdd]; rfl))
    | ((first | apply Ops.g1 | apply Drs.g1); case e => (simp (disch := omega) only [evs, Nat.reduceEqDiff, Nat.reduceLT, reduceIte]))
    | ((first | apply Ops.g0t | apply Ops.g0f | apply Drs.g0t | apply Drs.g0f); case e => (simp (disch := omega) only [evs, Nat.reduceEqDiff, Nat.reduceLT, reduceIte]))
    | ((first | apply Ops.g0u | apply Drs.g0u); case e => (simp (disch := omega) only [evs, Nat.reduceEqDiff, Nat.reduceLT, reduceIte]))
    | apply Ok.seq
    | apply Ok.block
    | (apply Ok.ops (S := Sp))
    | (apply Ok.condT; case e => (simp (disch := omega) only [evs, Nat.reduceEqDiff, Nat.reduceLT, reduceIte]))
    | (apply Ok.condF; case e => (simp (disch := omega) only [evs, Nat.reduceEqDiff, Nat.reduceLT, reduceIte]))
    | ((first | apply Ops.nil | apply Drs.nil | apply Ok.skip | apply Ok.exit | apply Ok.ret); try simp only [Then_n, Then_e, Then_r, Out_n, Out_e, Out_r, Nat.reduceEqDiff, reduceIte])
    | (apply Ok.drs (S := Sp) hmix)
    )
  apply Ops.box1
  case e => (simp (disch := omega) only [evs, Nat.reduceEqDiff, Nat.reduceLT, reduceIte, cond_true, cond_false, List.map_cons, List.map_nil, Nat.reduceAdd]; rfl)
  case k =>
  intro h1 id st hlt hge hrow
  have hM1 := hM.grow st
  repeat (first
    | ((first | apply Ops.op | apply Ops.op0 | apply Drs.bar | apply Drs.pure); case e => (intro k; simp (disch := omega) only [evs, Nat.reduceEqDiff, Nat.reduceLT, reduceIte, cond_true, cond_false, Nat.reduceAdd, hrow.rd1, hrow.rdA]; rfl))
    | ((first | apply Ops.g1 | apply Drs.g1); case e => (simp (disch := omega) only [evs, Nat.reduceEqDiff, Nat.reduceLT, reduceIte, hrow.rd1, hrow.rdA]))
    | ((first | apply Ops.g0t | apply Ops.g0f | apply Drs.g0t | apply Drs.g0f); case e => (simp (disch := omega) only [evs, Nat.reduceEqDiff, Nat.reduceLT, reduceIte, hrow.rd1, hrow.rdA]))
    | ((first | apply Ops.g0u | apply Drs.g0u); case e => (simp (disch := omega) only [evs, Nat.reduceEqDiff, Nat.reduceLT, reduceIte, hrow.rd1, hrow.rdA]))
    | apply Ok.seq
    | apply Ok.block
    | (apply Ok.ops (S := Sx))
    | (apply Ok.condT; case e => (simp (disch := omega) only [evs, Nat.reduceEqDiff, Nat.reduceLT, reduceIte, hrow.rd1, hrow.rdA]))
    | (apply Ok.condF; case e => (simp (disch := omega) only [evs, Nat.reduceEqDiff, Nat.reduceLT, reduceIte, hrow.rd1, hrow.rdA]))
    | ((first | apply Ops.nil | apply Drs.nil | apply Ok.skip | apply Ok.exit | apply Ok.ret); try simp only [Then_n, Then_e, Then_r, Out_n, Out_e, Out_r, Nat.reduceEqDiff, reduceIte])
    | (apply Ok.drs (S := Sx) hmix)
    )
  apply Ops.call
  case e => (simp (disch := omega) only [evs, Nat.reduceEqDiff, Nat.reduceLT, reduceIte, cond_true, cond_false, List.map_cons, List.map_nil, Nat.reduceAdd]; rfl)
  case hf => rw [hSx]; exact sr_rlevels hM1 hs hrl
  case k =>
  rw [hSx]
  rintro y h2 ⟨rfl, st2⟩
  clear hSx Sx
  have hrow2 := hrow.grow st2 hlt
  have hM2 := hM1.grow st2
  have s2 := st.trans st2
  have noA : isLv M a = false → domB M a b = false := fun h => by unfold domB; rw [h]; rfl
  have noB : isLv M b = false → domB M a b = false := fun h => by unfold domB; rw [h]; simp
  cases d1 : decide ((0 : Int) ≤ a) with
  | false =>
    repeat (first
      | ((first | apply Ops.op | apply Ops.op0 | apply Drs.bar | apply Drs.pure); case e => (intro k; simp (disch := omega) only [evs, Nat.reduceEqDiff, Nat.reduceLT, reduceIte, cond_true, cond_false, Nat.reduceAdd, d1]; rfl))
      | ((first | apply Ops.g1 | apply Drs.g1); case e => (simp (disch := omega) only [evs, Nat.reduceEqDiff, Nat.reduceLT, reduceIte, d1]))
      | ((first | apply Ops.g0t | apply Ops.g0f | apply Drs.g0t | apply Drs.g0f); case e => (simp (disch := omega) only [evs, Nat.reduceEqDiff, Nat.reduceLT, reduceIte, d1]))
      | ((first | apply Ops.g0u | apply Drs.g0u); case e => (simp (disch := omega) only [evs, Nat.reduceEqDiff, Nat.reduceLT, reduceIte, d1]))
      | apply Ok.seq
      | apply Ok.block
      | (apply Ok.ops (S := Sp))
      | (apply Ok.condT; case e => (simp (disch := omega) only [evs, Nat.reduceEqDiff, Nat.reduceLT, reduceIte, d1]))
      | (apply Ok.condF; case e => (simp (disch := omega) only [evs, Nat.reduceEqDiff, Nat.reduceLT, reduceIte, d1]))
      | ((first | apply Ops.nil | apply Drs.nil | apply Ok.skip | apply Ok.exit | apply Ok.ret); try simp only [Then_n, Then_e, Then_r, Out_n, Out_e, Out_r, Nat.reduceEqDiff, reduceIte])
      | (apply Ok.drs (S := Sp) hmix)
      )
    refine ⟨_, fun k => res_1 _ _ _ k, ?_⟩
    simp (disch := omega) only [evs, Nat.reduceEqDiff, Nat.reduceLT, reduceIte, cond_true, cond_false, List.map_cons, List.map_nil, Nat.reduceAdd, one_1]
    exact ⟨by rw [noA (decide_eq_false fun h => absurd h.1 (of_decide_eq_false d1))], s2⟩
  | true =>
  cases d2 : decide (a < ((lvls M : Nat) : Int)) with
  | false =>
    repeat (first
      | ((first | apply Ops.op | apply Ops.op0 | apply Drs.bar | apply Drs.pure); case e => (intro k; simp (disch := omega) only [evs, Nat.reduceEqDiff, Nat.reduceLT, reduceIte, cond_true, cond_false, Nat.reduceAdd, d1, d2]; rfl))
      | ((first | apply Ops.g1 | apply Drs.g1); case e => (simp (disch := omega) only [evs, Nat.reduceEqDiff, Nat.reduceLT, reduceIte, d1, d2]))
      | ((first | apply Ops.g0t | apply Ops.g0f | apply Drs.g0t | apply Drs.g0f); case e => (simp (disch := omega) only [evs, Nat.reduceEqDiff, Nat.reduceLT, reduceIte, d1, d2]))
      | ((first | apply Ops.g0u | apply Drs.g0u); case e => (simp (disch := omega) only [evs, Nat.reduceEqDiff, Nat.reduceLT, reduceIte, d1, d2]))
      | apply Ok.seq
      | apply Ok.block
      | (apply Ok.ops (S := Sp))
      | (apply Ok.condT; case e => (simp (disch := omega) only [evs, Nat.reduceEqDiff, Nat.reduceLT, reduceIte, d1, d2]))
      | (apply Ok.condF; case e => (simp (disch := omega) only [evs, Nat.reduceEqDiff, Nat.reduceLT, reduceIte, d1, d2]))
      | ((first | apply Ops.nil | apply Drs.nil | apply Ok.skip | apply Ok.exit | apply Ok.ret); try simp only [Then_n, Then_e, Then_r, Out_n, Out_e, Out_r, Nat.reduceEqDiff, reduceIte])
      | (apply Ok.drs (S := Sp) hmix)
      )
    refine ⟨_, fun k => res_1 _ _ _ k, ?_⟩
    simp (disch := omega) only [evs, Nat.reduceEqDiff, Nat.reduceLT, reduceIte, cond_true, cond_false, List.map_cons, List.map_nil, Nat.reduceAdd, one_1]
    exact ⟨by rw [noA (decide_eq_false fun h => absurd h.2 (of_decide_eq_false d2))], s2⟩
  | true =>
  cases d3 : decide ((0 : Int) ≤ b) with
  | false =>
    repeat (first
      | ((first | apply Ops.op | apply Ops.op0 | apply Drs.bar | apply Drs.pure); case e => (intro k; simp (disch := omega) only [evs, Nat.reduceEqDiff, Nat.reduceLT, reduceIte, cond_true, cond_false, Nat.reduceAdd, d1, d2, d3]; rfl))
      | ((first | apply Ops.g1 | apply Drs.g1); case e => (simp (disch := omega) only [evs, Nat.reduceEqDiff, Nat.reduceLT, reduceIte, d1, d2, d3]))
      | ((first | apply Ops.g0t | apply Ops.g0f | apply Drs.g0t | apply Drs.g0f); case e => (simp (disch := omega) only [evs, Nat.reduceEqDiff, Nat.reduceLT, reduceIte, d1, d2, d3]))
      | ((first | apply Ops.g0u | apply Drs.g0u); case e => (simp (disch := omega) only [evs, Nat.reduceEqDiff, Nat.reduceLT, reduceIte, d1, d2, d3]))
      | apply Ok.seq
      | apply Ok.block
      | (apply Ok.ops (S := Sp))
      | (apply Ok.condT; case e => (simp (disch := omega) only [evs, Nat.reduceEqDiff, Nat.reduceLT, reduceIte, d1, d2, d3]))
      | (apply Ok.condF; case e => (simp (disch := omega) only [evs, Nat.reduceEqDiff, Nat.reduceLT, reduceIte, d1, d2, d3]))
      | ((first | apply Ops.nil | apply Drs.nil | apply Ok.skip | apply Ok.exit | apply Ok.ret); try simp only [Then_n, Then_e, Then_r, Out_n, Out_e, Out_r, Nat.reduceEqDiff, reduceIte])
      | (apply Ok.drs (S := Sp) hmix)
      )
    refine ⟨_, fun k => res_1 _ _ _ k, ?_⟩
    simp (disch := omega) only [evs, Nat.reduceEqDiff, Nat.reduceLT, reduceIte, cond_true, cond_false, List.map_cons, List.map_nil, Nat.reduceAdd, one_1]
    exact ⟨by rw [noB (decide_eq_false fun h => absurd h.1 (of_decide_eq_false d3))], s2⟩
  | true =>
  cases d4 : decide (b < ((lvls M : Nat) : Int)) with
  | false =>
    repeat (first
      | ((first | apply Ops.op | apply Ops.op0 | apply Drs.bar | apply Drs.pure); case e => (intro k; simp (disch := omega) only [evs, Nat.reduceEqDiff, Nat.reduceLT, reduceIte, cond_true, cond_false, Nat.reduceAdd, d1, d2, d3, d4]; rfl))
      | ((first | apply Ops.g1 | apply Drs.g1); case e => (simp (disch := omega) only [evs, Nat.reduceEqDiff, Nat.reduceLT, reduceIte, d1, d2, d3, d4]))
      | ((first | apply Ops.g0t | apply Ops.g0f | apply Drs.g0t | apply Drs.g0f); case e => (simp (disch := omega) only [evs, Nat.reduceEqDiff, Nat.reduceLT, reduceIte, d1, d2, d3, d4]))
      | ((first | apply Ops.g0u | apply Drs.g0u); case e => (simp (disch := omega) only [evs, Nat.reduceEqDiff, Nat.reduceLT, reduceIte, d1, d2, d3, d4]))
      | apply Ok.seq
      | apply Ok.block
      | (apply Ok.ops (S := Sp))
      | (apply Ok.condT; case e => (simp (disch := omega) only [evs, Nat.reduceEqDiff, Nat.reduceLT, reduceIte, d1, d2, d3, d4]))
      | (apply Ok.condF; case e => (simp (disch := omega) only [evs, Nat.reduceEqDiff, Nat.reduceLT, reduceIte, d1, d2, d3, d4]))
      | ((first | apply Ops.nil | apply Drs.nil | apply Ok.skip | apply Ok.exit | apply Ok.ret); try simp only [Then_n, Then_e, Then_r, Out_n, Out_e, Out_r, Nat.reduceEqDiff, reduceIte])
      | (apply Ok.drs (S := Sp) hmix)
      )
    refine ⟨_, fun k => res_1 _ _ _ k, ?_⟩
    simp (disch := omega) only [evs, Nat.reduceEqDiff, Nat.reduceLT, reduceIte, cond_true, cond_false, List.map_cons, List.map_nil, Nat.reduceAdd, one_1]
    exact ⟨by rw [noB (decide_eq_false fun h => absurd h.2 (of_decide_eq_false d4))], s2⟩
  | true =>
  have e1 := of_decide_eq_true d1
  have e2 := of_decide_eq_true d2
  have e3 := of_decide_eq_true d3
  have e4 := of_decide_eq_true d4
  have la : isLv M a = true := decide_eq_true ⟨e1, e2⟩
  have lb : isLv M b = true := decide_eq_true ⟨e3, e4⟩
  obtain ⟨na, rfl⟩ := Int.eq_ofNat_of_zero_le e1
  obtain ⟨nb, rfl⟩ := Int.eq_ofNat_of_zero_le e3
  obtain ⟨q1, q2, q3, q4⟩ := lvls_rows (M := M) (a := na) (by omega)
  obtain ⟨r, hr, hld⟩ := hM2.rd (i := na) (by omega)
  have hl := q4 na (by omega)
  repeat (first
    | ((first | apply Ops.op | apply Ops.op0 | apply Drs.bar | apply Drs.pure); case e => (intro k; simp (disch := omega) only [evs, Nat.reduceEqDiff, Nat.reduceLT, reduceIte, cond_true, cond_false, Nat.reduceAdd, d1, d2, d3, d4, hrow2.rd1, hM2.idx, hld, hr.idx, hr.rd]; rfl))
    | ((first | apply Ops.g1 | apply Drs.g1); case e => (simp (disch := omega) only [evs, Nat.reduceEqDiff, Nat.reduceLT, reduceIte, d1, d2, d3, d4, hrow2.rd1, hM2.idx, hld, hr.idx, hr.rd]))
    | ((first | apply Ops.g0t | apply Ops.g0f | apply Drs.g0t | apply Drs.g0f); case e => (simp (disch := omega) only [evs, Nat.reduceEqDiff, Nat.reduceLT, reduceIte, d1, d2, d3, d4, hrow2.rd1, hM2.idx, hld, hr.idx, hr.rd]))
    | ((first | apply Ops.g0u | apply Drs.g0u); case e => (simp (disch := omega) only [evs, Nat.reduceEqDiff, Nat.reduceLT, reduceIte, d1, d2, d3, d4, hrow2.rd1, hM2.idx, hld, hr.idx, hr.rd]))
    | apply Ok.seq
    | apply Ok.block
    | (apply Ok.ops (S := Sp))
    | (apply Ok.condT; case e => (simp (disch := omega) only [evs, Nat.reduceEqDiff, Nat.reduceLT, reduceIte, d1, d2, d3, d4, hrow2.rd1, hM2.idx, hld, hr.idx, hr.rd]))
    | (apply Ok.condF; case e => (simp (disch := omega) only [evs, Nat.reduceEqDiff, Nat.reduceLT, reduceIte, d1, d2, d3, d4, hrow2.rd1, hM2.idx, hld, hr.idx, hr.rd]))
    | ((first | apply Ops.nil | apply Drs.nil | apply Ok.skip | apply Ok.exit | apply Ok.ret); try simp only [Then_n, Then_e, Then_r, Out_n, Out_e, Out_r, Nat.reduceEqDiff, reduceIte])
    | (apply Ok.drs (S := Sp) hmix)
    )
  refine ⟨_, fun k => res_1 _ _ _ k, ?_⟩
  simp (disch := omega) only [evs, Nat.reduceEqDiff, Nat.reduceLT, reduceIte, cond_true, cond_false, List.map_cons, List.map_nil, Nat.reduceAdd, one_1]
  exact ⟨by simp [domB, la, lb, at2], s2⟩
theorem sr_rdom (hM : Mx h v M) (hs : M.length ≤ 1000000) (hrl : ∀ i, i < M.length → (M.getD i []).length ≤ 1000000) (a b : Int) : FnOk Try.prog 20 [.a [v], .i .i64 a, .i .i64 b] h (SR v M 20 [.a [v], .i .i64 a, .i .i64 b] h) :=
  (rdom_ok hM hs hrl a b).mono fun y h' hk a' b' e => by cases e; exact hk

theorem rabove_ok (hM : Mx h v M) (hs : M.length ≤ 1000000) (hrl : ∀ i, i < M.length → (M.getD i []).length ≤ 1000000) (a b : Int) : FnOk Try.prog 22 [.a [v], .i .i64 a, .i .i64 b] h fun y h' => y = .b (aboveB M a b) ∧ Stay nowhere h h' := by
  refine fn_run c22 (by intro hb; cases hb) (by simp) (by simp) ?_
  simp only [slotsF, Nat.reduceAdd]
  unfold b22
  obtain ⟨Sx, hSx⟩ : ∃ S, S = SR v M := ⟨_, rfl⟩
  repeat (first
    | ((first | apply Ops.op | apply Ops.op0 | apply Drs.bar | apply Drs.pure); case e => (intro k; simp (disch := omega) only [evs, Nat.reduceEqDiff, Nat.reduceLT, reduceIte, cond_true, cond_false, Nat.reduceAdd]; rfl))
    | ((first | apply Ops.g1 | apply Drs.g1); case e => (simp (disch := omega) only [evs, Nat.reduceEqDiff, Nat.reduceLT, reduceIte]))
    | ((first | apply Ops.g0t | apply Ops.g0f | apply Drs.g0t | apply Drs.g0f); case e => (simp (disch := omega) only [evs, Nat.reduceEqDiff, Nat.reduceLT, reduceIte]))
    | ((first | apply Ops.g0u | apply Drs.g0u); case e => (simp (disch := omega) only [evs, Nat.reduceEqDiff, Nat.reduceLT, reduceIte]))
    | apply Ok.seq
    | apply Ok.block
    | (apply Ok.ops (S := Sp))
    | (apply Ok.condT; case e => (simp (disch := omega) only [evs, Nat.reduceEqDiff, Nat.reduceLT, reduceIte]))
    | (apply Ok.condF; case e => (simp (disch := omega) only [evs, Nat.reduceEqDiff, Nat.reduceLT, reduceIte]))
    | ((first | apply Ops.nil | apply Drs.nil | apply Ok.skip | apply Ok.exit | apply Ok.ret); try simp only [Then_n, Then_e, Then_r, Out_n, Out_e, Out_r, Nat.reduceEqDiff, reduceIte])
    | (apply Ok.drs (S := Sp) hmix)
    )
  apply Ops.box1
  case e => (simp (disch := omega) only [evs, Nat.reduceEqDiff, Nat.reduceLT, reduceIte, cond_true, cond_false, List.map_cons, List.map_nil, Nat.reduceAdd]; rfl)
  case k =>
    intro h1 id st hlt hge hrow
    have hM1 := hM.grow st
    cases hab : decide (a = b)
    · repeat (first
        | ((first | apply Ops.op | apply Ops.op0 | apply Drs.bar | apply Drs.pure); case e => (intro k; simp (disch := omega) only [evs, Nat.reduceEqDiff, Nat.reduceLT, reduceIte, cond_true, cond_false, Nat.reduceAdd, hrow.rdA, hab]; rfl))
        | ((first | apply Ops.g1 | apply Drs.g1); case e => (simp (disch := omega) only [evs, Nat.reduceEqDiff, Nat.reduceLT, reduceIte, hrow.rdA, hab]))
        | ((first | apply Ops.g0t | apply Ops.g0f | apply Drs.g0t | apply Drs.g0f); case e => (simp (disch := omega) only [evs, Nat.reduceEqDiff, Nat.reduceLT, reduceIte, hrow.rdA, hab]))
        | ((first | apply Ops.g0u | apply Drs.g0u); case e => (simp (disch := omega) only [evs, Nat.reduceEqDiff, Nat.reduceLT, reduceIte, hrow.rdA, hab]))
        | apply Ok.seq
        | apply Ok.block
        | (apply Ok.ops (S := Sx))
        | (apply Ok.condT; case e => (simp (disch := omega) only [evs, Nat.reduceEqDiff, Nat.reduceLT, reduceIte, hrow.rdA, hab]))
        | (apply Ok.condF; case e => (simp (disch := omega) only [evs, Nat.reduceEqDiff, Nat.reduceLT, reduceIte, hrow.rdA, hab]))
        | ((first | apply Ops.nil | apply Drs.nil | apply Ok.skip | apply Ok.exit | apply Ok.ret); try simp only [Then_n, Then_e, Then_r, Out_n, Out_e, Out_r, Nat.reduceEqDiff, reduceIte])
        | (apply Ok.drs (S := Sx) hmix)
        )
      apply Ops.call
      case e => (simp (disch := omega) only [evs, Nat.reduceEqDiff, Nat.reduceLT, reduceIte, cond_true, cond_false, List.map_cons, List.map_nil, Nat.reduceAdd]; rfl)
      case hf => rw [hSx]; exact sr_rdom hM1 hs hrl a b
      case k =>
        rw [hSx]
        intro y h2 hy
        obtain ⟨rfl, st2⟩ := hy _ _ rfl
        repeat (first
          | ((first | apply Ops.op | apply Ops.op0 | apply Drs.bar | apply Drs.pure); case e => (intro k; simp (disch := omega) only [evs, Nat.reduceEqDiff, Nat.reduceLT, reduceIte, cond_true, cond_false, Nat.reduceAdd, hab]; rfl))
          | ((first | apply Ops.g1 | apply Drs.g1); case e => (simp (disch := omega) only [evs, Nat.reduceEqDiff, Nat.reduceLT, reduceIte, hab]))
          | ((first | apply Ops.g0t | apply Ops.g0f | apply Drs.g0t | apply Drs.g0f); case e => (simp (disch := omega) only [evs, Nat.reduceEqDiff, Nat.reduceLT, reduceIte, hab]))
          | ((first | apply Ops.g0u | apply Drs.g0u); case e => (simp (disch := omega) only [evs, Nat.reduceEqDiff, Nat.reduceLT, reduceIte, hab]))
          | apply Ok.seq
          | apply Ok.block
          | (apply Ok.ops (S := Sp))
          | (apply Ok.condT; case e => (simp (disch := omega) only [evs, Nat.reduceEqDiff, Nat.reduceLT, reduceIte, hab]))
          | (apply Ok.condF; case e => (simp (disch := omega) only [evs, Nat.reduceEqDiff, Nat.reduceLT, reduceIte, hab]))
          | ((first | apply Ops.nil | apply Drs.nil | apply Ok.skip | apply Ok.exit | apply Ok.ret); try simp only [Then_n, Then_e, Then_r, Out_n, Out_e, Out_r, Nat.reduceEqDiff, reduceIte])
          | (apply Ok.drs (S := Sp) hmix)
          )
        refine ⟨_, fun k => res_1 _ _ _ k, ?_⟩
        simp (disch := omega) only [evs, Nat.reduceEqDiff, Nat.reduceLT, reduceIte, cond_true, cond_false, List.map_cons, List.map_nil, Nat.reduceAdd, one_1]
        exact ⟨by simp [aboveB, hab], st.trans st2⟩
    · repeat (first
        | ((first | apply Ops.op | apply Ops.op0 | apply Drs.bar | apply Drs.pure); case e => (intro k; simp (disch := omega) only [evs, Nat.reduceEqDiff, Nat.reduceLT, reduceIte, cond_true, cond_false, Nat.reduceAdd, hrow.rdA, hab]; rfl))
        | ((first | apply Ops.g1 | apply Drs.g1); case e => (simp (disch := omega) only [evs, Nat.reduceEqDiff, Nat.reduceLT, reduceIte, hrow.rdA, hab]))
        | ((first | apply Ops.g0t | apply Ops.g0f | apply Drs.g0t | apply Drs.g0f); case e => (simp (disch := omega) only [evs, Nat.reduceEqDiff, Nat.reduceLT, reduceIte, hrow.rdA, hab]))
        | ((first | apply Ops.g0u | apply Drs.g0u); case e => (simp (disch := omega) only [evs, Nat.reduceEqDiff, Nat.reduceLT, reduceIte, hrow.rdA, hab]))
        | apply Ok.seq
        | apply Ok.block
        | (apply Ok.ops (S := Sx))
        | (apply Ok.condT; case e => (simp (disch := omega) only [evs, Nat.reduceEqDiff, Nat.reduceLT, reduceIte, hrow.rdA, hab]))
        | (apply Ok.condF; case e => (simp (disch := omega) only [evs, Nat.reduceEqDiff, Nat.reduceLT, reduceIte, hrow.rdA, hab]))
        | ((first | apply Ops.nil | apply Drs.nil | apply Ok.skip | apply Ok.exit | apply Ok.ret); try simp only [Then_n, Then_e, Then_r, Out_n, Out_e, Out_r, Nat.reduceEqDiff, reduceIte])
        | (apply Ok.drs (S := Sx) hmix)
        )
      refine ⟨_, fun k => res_1 _ _ _ k, ?_⟩
      simp (disch := omega) only [evs, Nat.reduceEqDiff, Nat.reduceLT, reduceIte, cond_true, cond_false, List.map_cons, List.map_nil, Nat.reduceAdd, one_1]
      exact ⟨by simp [aboveB, hab], st⟩
theorem sr_rabove (hM : Mx h v M) (hs : M.length ≤ 1000000) (hrl : ∀ i, i < M.length → (M.getD i []).length ≤ 1000000) (a b : Int) : FnOk Try.prog 22 [.a [v], .i .i64 a, .i .i64 b] h (SR v M 22 [.a [v], .i .i64 a, .i .i64 b] h) :=
  (rabove_ok hM hs hrl a b).mono fun y h' hk a' b' e => by cases e; exact hk
end

/-- as the document's Below grows -/
def rb (M : Mt) (a : Int) (n : Nat) : List Int := ((List.range n).filter fun b : Nat => aboveB M a (b : Int)).map (fun b : Nat => (b : Int))
theorem rb_succ (M : Mt) (a : Int) (n : Nat) : rb M a (n + 1) = rb M a n ++ (if aboveB M a (n : Int) = true then [(n : Int)] else []) := by
  unfold rb
  rw [List.range_succ, List.filter_append, List.map_append]
  congr 1
  by_cases h : aboveB M a (n : Int) = true
  · rw [if_pos h]; simp [List.filter_cons, h]
  · rw [if_neg h]; simp only [List.filter_cons, h]; rfl
theorem rb_len (M : Mt) (a : Int) (n : Nat) : (rb M a n).length ≤ n := by
  unfold rb; rw [List.length_map]; exact Nat.le_trans (List.length_filter_le _ _) (by simp)
theorem rb_all (M : Mt) (a : Int) : rb M a (lvls M) = belowL M a := by
  unfold rb belowL
  cases ha : isLv M a with
  | false =>
    rw [if_neg (by simp)]
    have : ∀ b : Nat, aboveB M a (b : Int) = false := fun b => by unfold aboveB domB; rw [ha]; simp
    simp [this]
  | true =>
    rw [if_pos rfl]
    have ha' := of_decide_eq_true ha
    obtain ⟨n, rfl⟩ := Int.eq_ofNat_of_zero_le ha'.1
    obtain ⟨q1, q2, q3, q4⟩ := lvls_rows (M := M) (a := n) (by omega)
    unfold below0
    rw [← q1, Int.toNat_natCast]
    congr 1
    apply List.filter_congr
    intro b hb
    have hb' : b < M.length := by simpa using hb
    have lb : isLv M (b : Int) = true := decide_eq_true ⟨by omega, by omega⟩
    unfold aboveB domB
    rw [ha, lb, Int.toNat_natCast, Int.toNat_natCast]
    by_cases hne : b = n
    · subst hne; simp
    · have h1 : decide ((n : Int) = (b : Int)) = false := decide_eq_false (by omega)
      have h2 : (b == n) = false := beq_eq_false_iff_ne.2 hne
      rw [h1, h2]; simp

theorem rbelow_ok {h : H} {v : V} {M : Mt} (hM : Mx h v M) (hs : M.length ≤ 1000000) (hrl : ∀ i, i < M.length → (M.getD i []).length ≤ 1000000) (hf : B.val h.floor ≤ B.val h.next) (a : Int) : FnOk Try.prog 25 [.a [v], .i .i64 a] h fun y h' => Ib h' (B.val h.next) 3 y (belowL M a) ∧ Stay nowhere h h' := by
  refine fn_run c25 (by intro hb; cases hb) (by simp) (by simp) ?_
  simp only [slotsF, Nat.reduceAdd]
  unfold b25
  obtain ⟨Sx, hSx⟩ : ∃ S, S = SR v M := ⟨_, rfl⟩
  have hlv := lvls_le (M := M)
  repeat (first
    | ((first | apply Ops.op | apply Ops.op0 | apply Drs.bar | apply Drs.pure); case e => (intro k; simp (disch := omega) only [evs, Nat.reduceEqDiff, Nat.reduceLT, reduceIte, cond_true, cond_false, Nat.reduceAdd]; rfl))
    | ((first | apply Ops.g1 | apply Drs.g1); case e => (simp (disch := omega) only [evs, Nat.reduceEqDiff, Nat.reduceLT, reduceIte]))
    | ((first | apply Ops.g0t | apply Ops.g0f | apply Drs.g0t | apply Drs.g0f); case e => (simp (disch := omega) only [evs, Nat.reduceEqDiff, Nat.reduceLT, reduceIte]))
    | ((first | apply Ops.g0u | apply Drs.g0u); case e => (simp (disch := omega) only [evs, Nat.reduceEqDiff, Nat.reduceLT, reduceIte]))
    | apply Ok.seq
    | apply Ok.block
    | (apply Ok.ops (S := Sp))
    | (apply Ok.condT; case e => (simp (disch := omega) only [evs, Nat.reduceEqDiff, Nat.reduceLT, reduceIte]))
    | (apply Ok.condF; case e => (simp (disch := omega) only [evs, Nat.reduceEqDiff, Nat.reduceLT, reduceIte]))
    | ((first | apply Ops.nil | apply Drs.nil | apply Ok.skip | apply Ok.exit | apply Ok.ret); try simp only [Then_n, Then_e, Then_r, Out_n, Out_e, Out_r, Nat.reduceEqDiff, reduceIte])
    | (apply Ok.drs (S := Sp) hmix)
    )
  apply Ops.box1
  case e => (simp (disch := omega) only [evs, Nat.reduceEqDiff, Nat.reduceLT, reduceIte, cond_true, cond_false, List.map_cons, List.map_nil, Nat.reduceAdd]; rfl)
  case k =>
  intro h1 id st hlt hge hrow
  have hM1 := hM.grow st
  repeat (first
    | ((first | apply Ops.op | apply Ops.op0 | apply Drs.bar | apply Drs.pure); case e => (intro k; simp (disch := omega) only [evs, Nat.reduceEqDiff, Nat.reduceLT, reduceIte, cond_true, cond_false, Nat.reduceAdd]; rfl))
    | ((first | apply Ops.g1 | apply Drs.g1); case e => (simp (disch := omega) only [evs, Nat.reduceEqDiff, Nat.reduceLT, reduceIte]))
    | ((first | apply Ops.g0t | apply Ops.g0f | apply Drs.g0t | apply Drs.g0f); case e => (simp (disch := omega) only [evs, Nat.reduceEqDiff, Nat.reduceLT, reduceIte]))
    | ((first | apply Ops.g0u | apply Drs.g0u); case e => (simp (disch := omega) only [evs, Nat.reduceEqDiff, Nat.reduceLT, reduceIte]))
    | apply Ok.seq
    | apply Ok.block
    | (apply Ok.ops (S := Sx))
    | (apply Ok.condT; case e => (simp (disch := omega) only [evs, Nat.reduceEqDiff, Nat.reduceLT, reduceIte]))
    | (apply Ok.condF; case e => (simp (disch := omega) only [evs, Nat.reduceEqDiff, Nat.reduceLT, reduceIte]))
    | ((first | apply Ops.nil | apply Drs.nil | apply Ok.skip | apply Ok.exit | apply Ok.ret); try simp only [Then_n, Then_e, Then_r, Out_n, Out_e, Out_r, Nat.reduceEqDiff, reduceIte])
    | (apply Ok.drs (S := Sx) hmix)
    )
  refine Ok.loop (fun m t g => ∃ (r : Nat) (w : V), r ≤ lvls M ∧ m = lvls M - r ∧ Stay nowhere h1 g ∧ get 1 t = .i .i64 a ∧ get 2 t = .p id 0 0 1 ∧ get 5 t = w ∧ get 6 t = .i .i64 (r : Int) ∧ Ib g (B.val h1.next) 3 w (rb M a r)) ?_ (lvls M) _ _ ?_
  case refine_2 => exact ⟨0, .l0, Nat.zero_le _, rfl, Stay.refl _ _, by simp (disch := omega) only [evs, Nat.reduceEqDiff, Nat.reduceLT, reduceIte, cond_true, cond_false, List.map_cons, List.map_nil, Nat.reduceAdd], by simp (disch := omega) only [evs, Nat.reduceEqDiff, Nat.reduceLT, reduceIte, cond_true, cond_false, List.map_cons, List.map_nil, Nat.reduceAdd], by simp (disch := omega) only [evs, Nat.reduceEqDiff, Nat.reduceLT, reduceIte, cond_true, cond_false, List.map_cons, List.map_nil, Nat.reduceAdd], by simp (disch := omega) only [evs, Nat.reduceEqDiff, Nat.reduceLT, reduceIte, cond_true, cond_false, List.map_cons, List.map_nil, Nat.reduceAdd], Ib.nil _ _ _⟩
  rintro m t g ⟨r, w, hr', rfl, sg, f1, f2, f5, f6, bw⟩
  have hrowg := hrow.grow sg hlt
  have hMg := hM1.grow sg
  unfold l25_0
  repeat (first
    | ((first | apply Ops.op | apply Ops.op0 | apply Drs.bar | apply Drs.pure); case e => (intro k; simp (disch := omega) only [evs, Nat.reduceEqDiff, Nat.reduceLT, reduceIte, cond_true, cond_false, Nat.reduceAdd, f1, f2, f5, f6, hrowg.rdA]; rfl))
    | ((first | apply Ops.g1 | apply Drs.g1); case e => (simp (disch := omega) only [evs, Nat.reduceEqDiff, Nat.reduceLT, reduceIte, f1, f2, f5, f6, hrowg.rdA]))
    | ((first | apply Ops.g0t | apply Ops.g0f | apply Drs.g0t | apply Drs.g0f); case e => (simp (disch := omega) only [evs, Nat.reduceEqDiff, Nat.reduceLT, reduceIte, f1, f2, f5, f6, hrowg.rdA]))
    | ((first | apply Ops.g0u | apply Drs.g0u); case e => (simp (disch := omega) only [evs, Nat.reduceEqDiff, Nat.reduceLT, reduceIte, f1, f2, f5, f6, hrowg.rdA]))
    | apply Ok.seq
    | apply Ok.block
    | (apply Ok.ops (S := Sx))
    | (apply Ok.condT; case e => (simp (disch := omega) only [evs, Nat.reduceEqDiff, Nat.reduceLT, reduceIte, f1, f2, f5, f6, hrowg.rdA]))
    | (apply Ok.condF; case e => (simp (disch := omega) only [evs, Nat.reduceEqDiff, Nat.reduceLT, reduceIte, f1, f2, f5, f6, hrowg.rdA]))
    | ((first | apply Ops.nil | apply Drs.nil | apply Ok.skip | apply Ok.exit | apply Ok.ret); try simp only [Then_n, Then_e, Then_r, Out_n, Out_e, Out_r, Nat.reduceEqDiff, reduceIte])
    | (apply Ok.drs (S := Sx) hmix)
    )
  apply Ops.call
  case e => (simp (disch := omega) only [evs, Nat.reduceEqDiff, Nat.reduceLT, reduceIte, cond_true, cond_false, List.map_cons, List.map_nil, Nat.reduceAdd]; rfl)
  case hf => rw [hSx]; exact sr_rlevels hMg hs hrl
  case k =>
  intro y g2 hy
  rw [hSx] at hy
  obtain ⟨rfl, s2⟩ := hy
  have sg2 := sg.trans s2
  have hrow2 := hrow.grow sg2 hlt
  have hM2 := hM1.grow sg2
  have bw2 := bw.grow s2
  repeat (first
    | ((first | apply Ops.op | apply Ops.op0 | apply Drs.bar | apply Drs.pure); case e => (intro k; simp (disch := omega) only [evs, Nat.reduceEqDiff, Nat.reduceLT, reduceIte, cond_true, cond_false, Nat.reduceAdd, f1, f2, f5, f6]; rfl))
    | ((first | apply Ops.g1 | apply Drs.g1); case e => (simp (disch := omega) only [evs, Nat.reduceEqDiff, Nat.reduceLT, reduceIte, f1, f2, f5, f6]))
    | ((first | apply Ops.g0t | apply Ops.g0f | apply Drs.g0t | apply Drs.g0f); case e => (simp (disch := omega) only [evs, Nat.reduceEqDiff, Nat.reduceLT, reduceIte, f1, f2, f5, f6]))
    | ((first | apply Ops.g0u | apply Drs.g0u); case e => (simp (disch := omega) only [evs, Nat.reduceEqDiff, Nat.reduceLT, reduceIte, f1, f2, f5, f6]))
    | apply Ok.seq
    | apply Ok.block
    | (apply Ok.ops (S := Sx))
    | (apply Ok.condT; case e => (simp (disch := omega) only [evs, Nat.reduceEqDiff, Nat.reduceLT, reduceIte, f1, f2, f5, f6]))
    | (apply Ok.condF; case e => (simp (disch := omega) only [evs, Nat.reduceEqDiff, Nat.reduceLT, reduceIte, f1, f2, f5, f6]))
    | ((first | apply Ops.nil | apply Drs.nil | apply Ok.skip | apply Ok.exit | apply Ok.ret); try simp only [Then_n, Then_e, Then_r, Out_n, Out_e, Out_r, Nat.reduceEqDiff, reduceIte])
    | (apply Ok.drs (S := Sx) hmix)
    )
  apply Ok.cond
  case hq => (simp (disch := omega) only [evs, Nat.reduceEqDiff, Nat.reduceLT, reduceIte, cond_true, cond_false, List.map_cons, List.map_nil, Nat.reduceAdd, f6]; rfl)
  case hb =>
    intro hc
    have hc := of_decide_eq_false hc
    have : r = lvls M := by omega
    subst this
    repeat (first
      | ((first | apply Ops.op | apply Ops.op0 | apply Drs.bar | apply Drs.pure); case e => (intro k; simp (disch := omega) only [evs, Nat.reduceEqDiff, Nat.reduceLT, reduceIte, cond_true, cond_false, Nat.reduceAdd, f5]; rfl))
      | ((first | apply Ops.g1 | apply Drs.g1); case e => (simp (disch := omega) only [evs, Nat.reduceEqDiff, Nat.reduceLT, reduceIte, f5]))
      | ((first | apply Ops.g0t | apply Ops.g0f | apply Drs.g0t | apply Drs.g0f); case e => (simp (disch := omega) only [evs, Nat.reduceEqDiff, Nat.reduceLT, reduceIte, f5]))
      | ((first | apply Ops.g0u | apply Drs.g0u); case e => (simp (disch := omega) only [evs, Nat.reduceEqDiff, Nat.reduceLT, reduceIte, f5]))
      | apply Ok.seq
      | apply Ok.block
      | (apply Ok.ops (S := Sp))
      | (apply Ok.condT; case e => (simp (disch := omega) only [evs, Nat.reduceEqDiff, Nat.reduceLT, reduceIte, f5]))
      | (apply Ok.condF; case e => (simp (disch := omega) only [evs, Nat.reduceEqDiff, Nat.reduceLT, reduceIte, f5]))
      | ((first | apply Ops.nil | apply Drs.nil | apply Ok.skip | apply Ok.exit | apply Ok.ret); try simp only [Then_n, Then_e, Then_r, Out_n, Out_e, Out_r, Nat.reduceEqDiff, reduceIte])
      | (apply Ok.drs (S := Sp) hmix)
      )
    refine ⟨_, fun k => res_1 _ _ _ k, ?_⟩
    simp (disch := omega) only [evs, Nat.reduceEqDiff, Nat.reduceLT, reduceIte, cond_true, cond_false, List.map_cons, List.map_nil, Nat.reduceAdd, one_1, f5]
    rw [← rb_all]
    exact ⟨⟨bw2.buf, fun i hi => Nat.le_trans st.next (bw2.own i hi)⟩, st.trans sg2⟩
  case ha =>
    intro hc
    have hc := of_decide_eq_true hc
    repeat (first
      | ((first | apply Ops.op | apply Ops.op0 | apply Drs.bar | apply Drs.pure); case e => (intro k; simp (disch := omega) only [evs, Nat.reduceEqDiff, Nat.reduceLT, reduceIte, cond_true, cond_false, Nat.reduceAdd, f1, f2, f5, f6, hrow2.rdA]; rfl))
      | ((first | apply Ops.g1 | apply Drs.g1); case e => (simp (disch := omega) only [evs, Nat.reduceEqDiff, Nat.reduceLT, reduceIte, f1, f2, f5, f6, hrow2.rdA]))
      | ((first | apply Ops.g0t | apply Ops.g0f | apply Drs.g0t | apply Drs.g0f); case e => (simp (disch := omega) only [evs, Nat.reduceEqDiff, Nat.reduceLT, reduceIte, f1, f2, f5, f6, hrow2.rdA]))
      | ((first | apply Ops.g0u | apply Drs.g0u); case e => (simp (disch := omega) only [evs, Nat.reduceEqDiff, Nat.reduceLT, reduceIte, f1, f2, f5, f6, hrow2.rdA]))
      | apply Ok.seq
      | apply Ok.block
      | (apply Ok.ops (S := Sx))
      | (apply Ok.condT; case e => (simp (disch := omega) only [evs, Nat.reduceEqDiff, Nat.reduceLT, reduceIte, f1, f2, f5, f6, hrow2.rdA]))
      | (apply Ok.condF; case e => (simp (disch := omega) only [evs, Nat.reduceEqDiff, Nat.reduceLT, reduceIte, f1, f2, f5, f6, hrow2.rdA]))
      | ((first | apply Ops.nil | apply Drs.nil | apply Ok.skip | apply Ok.exit | apply Ok.ret); try simp only [Then_n, Then_e, Then_r, Out_n, Out_e, Out_r, Nat.reduceEqDiff, reduceIte])
      | (apply Ok.drs (S := Sx) hmix)
      )
    apply Ops.call
    case e => (simp (disch := omega) only [evs, Nat.reduceEqDiff, Nat.reduceLT, reduceIte, cond_true, cond_false, List.map_cons, List.map_nil, Nat.reduceAdd]; rfl)
    case hf => rw [hSx]; exact sr_rabove hM2 hs hrl a r
    case k =>
    intro y g3 hy
    rw [hSx] at hy
    obtain ⟨rfl, s3⟩ := hy _ _ rfl
    have sg3 := sg2.trans s3
    have bw3 := bw2.grow s3
    have fg3 := (st.trans sg3).fl hf
    have bl := rb_len M a r
    cases hab : aboveB M a (r : Int) with
    | false =>
      repeat (first
        | ((first | apply Ops.op | apply Ops.op0 | apply Drs.bar | apply Drs.pure); case e => (intro k; simp (disch := omega) only [evs, Nat.reduceEqDiff, Nat.reduceLT, reduceIte, cond_true, cond_false, Nat.reduceAdd, f1, f2, f5, f6, hab]; rfl))
        | ((first | apply Ops.g1 | apply Drs.g1); case e => (simp (disch := omega) only [evs, Nat.reduceEqDiff, Nat.reduceLT, reduceIte, f1, f2, f5, f6, hab]))
        | ((first | apply Ops.g0t | apply Ops.g0f | apply Drs.g0t | apply Drs.g0f); case e => (simp (disch := omega) only [evs, Nat.reduceEqDiff, Nat.reduceLT, reduceIte, f1, f2, f5, f6, hab]))
        | ((first | apply Ops.g0u | apply Drs.g0u); case e => (simp (disch := omega) only [evs, Nat.reduceEqDiff, Nat.reduceLT, reduceIte, f1, f2, f5, f6, hab]))
        | apply Ok.seq
        | apply Ok.block
        | (apply Ok.ops (S := Sx))
        | (apply Ok.condT; case e => (simp (disch := omega) only [evs, Nat.reduceEqDiff, Nat.reduceLT, reduceIte, f1, f2, f5, f6, hab]))
        | (apply Ok.condF; case e => (simp (disch := omega) only [evs, Nat.reduceEqDiff, Nat.reduceLT, reduceIte, f1, f2, f5, f6, hab]))
        | ((first | apply Ops.nil | apply Drs.nil | apply Ok.skip | apply Ok.exit | apply Ok.ret); try simp only [Then_n, Then_e, Then_r, Out_n, Out_e, Out_r, Nat.reduceEqDiff, reduceIte])
        | (apply Ok.drs (S := Sx) hmix)
        )
      refine ⟨lvls M - (r + 1), by omega, r + 1, w, by omega, rfl, sg3, by simp (disch := omega) only [evs, Nat.reduceEqDiff, Nat.reduceLT, reduceIte, cond_true, cond_false, List.map_cons, List.map_nil, Nat.reduceAdd, f1], by simp (disch := omega) only [evs, Nat.reduceEqDiff, Nat.reduceLT, reduceIte, cond_true, cond_false, List.map_cons, List.map_nil, Nat.reduceAdd, f2], by simp (disch := omega) only [evs, Nat.reduceEqDiff, Nat.reduceLT, reduceIte, cond_true, cond_false, List.map_cons, List.map_nil, Nat.reduceAdd, f5], by simp (disch := omega) only [evs, Nat.reduceEqDiff, Nat.reduceLT, reduceIte, cond_true, cond_false, List.map_cons, List.map_nil, Nat.reduceAdd, f6, Int.natCast_add, Int.natCast_one], ?_⟩
      rw [rb_succ, if_neg (by rw [hab]; simp), List.append_nil]
      exact bw3
    | true =>
      repeat (first
        | ((first | apply Ops.op | apply Ops.op0 | apply Drs.bar | apply Drs.pure); case e => (intro k; simp (disch := omega) only [evs, Nat.reduceEqDiff, Nat.reduceLT, reduceIte, cond_true, cond_false, Nat.reduceAdd, f1, f2, f5, f6, hab]; rfl))
        | ((first | apply Ops.g1 | apply Drs.g1); case e => (simp (disch := omega) only [evs, Nat.reduceEqDiff, Nat.reduceLT, reduceIte, f1, f2, f5, f6, hab]))
        | ((first | apply Ops.g0t | apply Ops.g0f | apply Drs.g0t | apply Drs.g0f); case e => (simp (disch := omega) only [evs, Nat.reduceEqDiff, Nat.reduceLT, reduceIte, f1, f2, f5, f6, hab]))
        | ((first | apply Ops.g0u | apply Drs.g0u); case e => (simp (disch := omega) only [evs, Nat.reduceEqDiff, Nat.reduceLT, reduceIte, f1, f2, f5, f6, hab]))
        | apply Ok.seq
        | apply Ok.block
        | (apply Ok.ops (S := Sx))
        | (apply Ok.condT; case e => (simp (disch := omega) only [evs, Nat.reduceEqDiff, Nat.reduceLT, reduceIte, f1, f2, f5, f6, hab]))
        | (apply Ok.condF; case e => (simp (disch := omega) only [evs, Nat.reduceEqDiff, Nat.reduceLT, reduceIte, f1, f2, f5, f6, hab]))
        | ((first | apply Ops.nil | apply Drs.nil | apply Ok.skip | apply Ok.exit | apply Ok.ret); try simp only [Then_n, Then_e, Then_r, Out_n, Out_e, Out_r, Nat.reduceEqDiff, reduceIte])
        | (apply Ok.drs (S := Sx) hmix)
        )
      apply Ops.push
      case hnm => decide
      case hm => decide
      case e1 => (simp (disch := omega) only [evs, Nat.reduceEqDiff, Nat.reduceLT, reduceIte, cond_true, cond_false, List.map_cons, List.map_nil, Nat.reduceAdd, f5]; rfl)
      case e2 => (simp (disch := omega) only [evs, Nat.reduceEqDiff, Nat.reduceLT, reduceIte, cond_true, cond_false, List.map_cons, List.map_nil, Nat.reduceAdd, f6]; rfl)
      case a => exact bw3
      case hf => exact fg3
      case hlo => exact sg3.next
      case hl => omega
      case e3 => intro u; simp (disch := omega) only [evs, Nat.reduceEqDiff, Nat.reduceLT, reduceIte, cond_true, cond_false, List.map_cons, List.map_nil, Nat.reduceAdd, f5]
      case hs => intro e; cases e
      case k =>
      intro w' g' u b' s'
      repeat (first
        | ((first | apply Ops.op | apply Ops.op0 | apply Drs.bar | apply Drs.pure); case e => (intro k; simp (disch := omega) only [evs, Nat.reduceEqDiff, Nat.reduceLT, reduceIte, cond_true, cond_false, Nat.reduceAdd, f1, f2, f6]; rfl))
        | ((first | apply Ops.g1 | apply Drs.g1); case e => (simp (disch := omega) only [evs, Nat.reduceEqDiff, Nat.reduceLT, reduceIte, f1, f2, f6]))
        | ((first | apply Ops.g0t | apply Ops.g0f | apply Drs.g0t | apply Drs.g0f); case e => (simp (disch := omega) only [evs, Nat.reduceEqDiff, Nat.reduceLT, reduceIte, f1, f2, f6]))
        | ((first | apply Ops.g0u | apply Drs.g0u); case e => (simp (disch := omega) only [evs, Nat.reduceEqDiff, Nat.reduceLT, reduceIte, f1, f2, f6]))
        | apply Ok.seq
        | apply Ok.block
        | (apply Ok.ops (S := Sx))
        | (apply Ok.condT; case e => (simp (disch := omega) only [evs, Nat.reduceEqDiff, Nat.reduceLT, reduceIte, f1, f2, f6]))
        | (apply Ok.condF; case e => (simp (disch := omega) only [evs, Nat.reduceEqDiff, Nat.reduceLT, reduceIte, f1, f2, f6]))
        | ((first | apply Ops.nil | apply Drs.nil | apply Ok.skip | apply Ok.exit | apply Ok.ret); try simp only [Then_n, Then_e, Then_r, Out_n, Out_e, Out_r, Nat.reduceEqDiff, reduceIte])
        | (apply Ok.drs (S := Sx) hmix)
        )
      refine ⟨lvls M - (r + 1), by omega, r + 1, w', by omega, rfl, ?_, by simp (disch := omega) only [evs, Nat.reduceEqDiff, Nat.reduceLT, reduceIte, cond_true, cond_false, List.map_cons, List.map_nil, Nat.reduceAdd, f1], by simp (disch := omega) only [evs, Nat.reduceEqDiff, Nat.reduceLT, reduceIte, cond_true, cond_false, List.map_cons, List.map_nil, Nat.reduceAdd, f2], by simp (disch := omega) only [evs, Nat.reduceEqDiff, Nat.reduceLT, reduceIte, cond_true, cond_false, List.map_cons, List.map_nil, Nat.reduceAdd], by simp (disch := omega) only [evs, Nat.reduceEqDiff, Nat.reduceLT, reduceIte, cond_true, cond_false, List.map_cons, List.map_nil, Nat.reduceAdd, f6, Int.natCast_add, Int.natCast_one], ?_⟩
      · exact sg3.past' s' fun i hi => bw3.own i hi
      · rw [rb_succ, if_pos hab]
        exact b'

/-- as the document's Join looks -/
def lstR (M : Mt) (a b : Int) (c q : Nat) : Bool := (List.range q).all fun d => !domB M (d : Int) a || (!domB M (d : Int) b || domB M (d : Int) (c : Int))
theorem lstR_succ (M : Mt) (a b : Int) (c q : Nat) : lstR M a b c (q + 1) = (lstR M a b c q && (!domB M (q : Int) a || (!domB M (q : Int) b || domB M (q : Int) (c : Int)))) := by
  unfold lstR
  rw [List.range_succ, List.all_append]
  simp
def rjB (M : Mt) (a b : Int) (c : Nat) : Bool := domB M (c : Int) a && (domB M (c : Int) b && lstR M a b c (lvls M))
def rjP (M : Mt) (a b : Int) : Int × Bool := match (List.range (lvls M)).find? (rjB M a b) with | some c => ((c : Int), true) | none => (0, false)
theorem rj_some {M : Mt} {a b : Int} {c : Nat} (h : c < lvls M) (h1 : ∀ i, i < c → rjB M a b i = false) (h2 : rjB M a b c = true) : rjP M a b = ((c : Int), true) := by
  unfold rjP; rw [find_range _ _ _ h h1 h2]
theorem rj_none {M : Mt} {a b : Int} (h1 : ∀ i, i < lvls M → rjB M a b i = false) : rjP M a b = (0, false) := by
  have : (List.range (lvls M)).find? (rjB M a b) = none := by
    rw [List.find?_eq_none]
    intro x hx
    rw [h1 x (by simpa using hx)]
    simp
  unfold rjP; rw [this]
theorem rj_eq (M : Mt) (a b : Int) : rjP M a b = joinP M a b := by
  cases ha : isLv M a with
  | false =>
    have : ∀ c, rjB M a b c = false := fun c => by unfold rjB domB; rw [ha]; simp
    rw [rj_none fun i _ => this i]
    unfold joinP; rw [ha]; rfl
  | true =>
    cases hb : isLv M b with
    | false =>
      have : ∀ c, rjB M a b c = false := fun c => by
        unfold rjB
        have : domB M (c : Int) b = false := by unfold domB; rw [hb]; simp
        rw [this]; simp
      rw [rj_none fun i _ => this i]
      unfold joinP; rw [ha, hb]; rfl
    | true =>
      have ha' := of_decide_eq_true ha
      have hb' := of_decide_eq_true hb
      obtain ⟨x, rfl⟩ := Int.eq_ofNat_of_zero_le ha'.1
      obtain ⟨z, rfl⟩ := Int.eq_ofNat_of_zero_le hb'.1
      obtain ⟨q1, q2, q3, q4⟩ := lvls_rows (M := M) (a := x) (by omega)
      have hd : ∀ c y : Nat, c < M.length → y < M.length → domB M (c : Int) (y : Int) = at2 M c y := fun c y hc hy => by
        have l1 : isLv M (c : Int) = true := decide_eq_true ⟨by omega, by omega⟩
        have l2 : isLv M (y : Int) = true := decide_eq_true ⟨by omega, by omega⟩
        unfold domB; rw [l1, l2]; simp
      have hl : ∀ c q, c < M.length → q ≤ M.length → lstR M (x : Int) (z : Int) c q = leastB M x z c q := fun c q hc hq => by
        induction q with
        | zero => rfl
        | succ q ih =>
          rw [lstR_succ, leastB_succ, ih (by omega), hd q x (by omega) (by omega), hd q z (by omega) (by omega), hd q c (by omega) hc]
          unfold bothB
          cases at2 M q x <;> cases at2 M q z <;> cases at2 M q c <;> rfl
      have hj : ∀ c, c < M.length → rjB M (x : Int) (z : Int) c = joinB M x z c := fun c hc => by
        unfold rjB joinB
        rw [hd c x hc (by omega), hd c z hc (by omega), ← q1, hl c _ hc (Nat.le_refl _)]
        unfold bothB
        rw [Bool.and_assoc]
      have hfind : (List.range (lvls M)).find? (rjB M (x : Int) (z : Int)) = joinO M x z := by
        unfold joinO
        rw [← q1]
        have : ∀ l : List Nat, (∀ y ∈ l, y < M.length) → l.find? (rjB M (x : Int) (z : Int)) = l.find? (joinB M x z) := by
          intro l
          induction l with
          | nil => intro _; rfl
          | cons y l ih =>
            intro hy
            rw [List.find?_cons, List.find?_cons, hj y (hy y (by simp)), ih fun w hw => hy w (by simp [hw])]
        exact this _ fun y hy => by simpa using hy
      unfold rjP joinP
      rw [ha, hb, hfind]
      simp only [Bool.and_self, if_true, Int.toNat_natCast]
      cases joinO M x z <;> rfl
end Go.Proofs.Ytpnflehemjbemaa
