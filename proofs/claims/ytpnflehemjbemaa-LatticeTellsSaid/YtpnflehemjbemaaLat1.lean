/- The functions of package lattice, each by what it computes. No condition. -/
import Derived.Test.YtpnflehemjbemaaIrLat
import Derived.Test.YtpnflehemjbemaaEvW
set_option maxRecDepth 100000
set_option maxHeartbeats 4000000
set_option linter.all false
namespace Go.Proofs.Ytpnflehemjbemaa
open Go Go.Ev

/-- row has all that part has -/
def holdsB (R Q : List Bool) : Bool := decide (∀ i, i < Q.length → Q.getD i false = true → R.getD i false = true)

def Sp : Ev.Spec := fun _ _ _ _ _ => True

theorem holds_ok {h : H} {v u : V} {R Q : List Bool} (hR : Bl h v R) (hQ : Bl h u Q) (hl : Q.length ≤ R.length) (hs : Q.length ≤ 1000) : FnOk Try.prog 66 [v, u] h fun y h' => y = .b (holdsB R Q) ∧ h' = h := by
  refine fn_run c66 (by intro hb; cases hb) (by simp) (by simp) ?_
  simp only [slotsF, Nat.reduceAdd]
  unfold b66
  repeat (first
    | ((first | apply Ops.op | apply Ops.op0 | apply Drs.bar | apply Drs.pure); case e => (intro k; simp (disch := omega) only [evs, Nat.reduceEqDiff, Nat.reduceLT, reduceIte, cond_true, cond_false, Nat.reduceAdd, hQ.len, hR.len]; rfl))
    | ((first | apply Ops.g1 | apply Drs.g1); case e => (simp (disch := omega) only [evs, Nat.reduceEqDiff, Nat.reduceLT, reduceIte, hQ.len, hR.len]))
    | ((first | apply Ops.g0t | apply Ops.g0f | apply Drs.g0t | apply Drs.g0f); case e => (simp (disch := omega) only [evs, Nat.reduceEqDiff, Nat.reduceLT, reduceIte, hQ.len, hR.len]))
    | ((first | apply Ops.g0u | apply Drs.g0u); case e => (simp (disch := omega) only [evs, Nat.reduceEqDiff, Nat.reduceLT, reduceIte, hQ.len, hR.len]))
    | apply Ok.seq
    | apply Ok.block
    | (apply Ok.ops (S := Sp))
    | (apply Ok.condT; case e => (simp (disch := omega) only [evs, Nat.reduceEqDiff, Nat.reduceLT, reduceIte, hQ.len, hR.len]))
    | (apply Ok.condF; case e => (simp (disch := omega) only [evs, Nat.reduceEqDiff, Nat.reduceLT, reduceIte, hQ.len, hR.len]))
    | ((first | apply Ops.nil | apply Drs.nil | apply Ok.skip | apply Ok.exit | apply Ok.ret); try simp only [Then_n, Then_e, Then_r, Out_n, Out_e, Out_r, Nat.reduceEqDiff, reduceIte])
    | (apply Ok.drs (S := Sp) hmix)
    )
  refine Ok.loop (fun m t h' => ∃ i : Nat, i ≤ Q.length ∧ m = Q.length - i ∧ h = h' ∧ get 0 t = v ∧ get 7 t = u ∧ get 8 t = .i .i64 (Q.length : Int) ∧ get 9 t = .i .i64 (i : Int) ∧ ∀ j, j < i → Q.getD j false = true → R.getD j false = true) ?_ Q.length _ _ ?_
  · rintro m t _ ⟨i, hi, rfl, rfl, g0, g7, g8, g9, hA⟩
    unfold l66_0
    repeat (first
      | ((first | apply Ops.op | apply Ops.op0 | apply Drs.bar | apply Drs.pure); case e => (intro k; simp (disch := omega) only [evs, Nat.reduceEqDiff, Nat.reduceLT, reduceIte, cond_true, cond_false, Nat.reduceAdd, g0, g7, g8, g9]; rfl))
      | ((first | apply Ops.g1 | apply Drs.g1); case e => (simp (disch := omega) only [evs, Nat.reduceEqDiff, Nat.reduceLT, reduceIte, g0, g7, g8, g9]))
      | ((first | apply Ops.g0t | apply Ops.g0f | apply Drs.g0t | apply Drs.g0f); case e => (simp (disch := omega) only [evs, Nat.reduceEqDiff, Nat.reduceLT, reduceIte, g0, g7, g8, g9]))
      | ((first | apply Ops.g0u | apply Drs.g0u); case e => (simp (disch := omega) only [evs, Nat.reduceEqDiff, Nat.reduceLT, reduceIte, g0, g7, g8, g9]))
      | apply Ok.seq
      | apply Ok.block
      | (apply Ok.ops (S := Sp))
      | (apply Ok.condT; case e => (simp (disch := omega) only [evs, Nat.reduceEqDiff, Nat.reduceLT, reduceIte, g0, g7, g8, g9]))
      | (apply Ok.condF; case e => (simp (disch := omega) only [evs, Nat.reduceEqDiff, Nat.reduceLT, reduceIte, g0, g7, g8, g9]))
      | ((first | apply Ops.nil | apply Drs.nil | apply Ok.skip | apply Ok.exit | apply Ok.ret); try simp only [Then_n, Then_e, Then_r, Out_n, Out_e, Out_r, Nat.reduceEqDiff, reduceIte])
      | (apply Ok.drs (S := Sp) hmix)
      )
    apply Ok.cond
    case hq => (simp (disch := omega) only [evs, Nat.reduceEqDiff, Nat.reduceLT, reduceIte, cond_true, cond_false, List.map_cons, List.map_nil, Nat.reduceAdd, g0, g7, g8, g9]; rfl)
    case hb =>
      intro hc
      have hc := of_decide_eq_false hc
      repeat (first
        | ((first | apply Ops.op | apply Ops.op0 | apply Drs.bar | apply Drs.pure); case e => (intro k; simp (disch := omega) only [evs, Nat.reduceEqDiff, Nat.reduceLT, reduceIte, cond_true, cond_false, Nat.reduceAdd, g0, g7, g8, g9]; rfl))
        | ((first | apply Ops.g1 | apply Drs.g1); case e => (simp (disch := omega) only [evs, Nat.reduceEqDiff, Nat.reduceLT, reduceIte, g0, g7, g8, g9]))
        | ((first | apply Ops.g0t | apply Ops.g0f | apply Drs.g0t | apply Drs.g0f); case e => (simp (disch := omega) only [evs, Nat.reduceEqDiff, Nat.reduceLT, reduceIte, g0, g7, g8, g9]))
        | ((first | apply Ops.g0u | apply Drs.g0u); case e => (simp (disch := omega) only [evs, Nat.reduceEqDiff, Nat.reduceLT, reduceIte, g0, g7, g8, g9]))
        | apply Ok.seq
        | apply Ok.block
        | (apply Ok.ops (S := Sp))
        | (apply Ok.condT; case e => (simp (disch := omega) only [evs, Nat.reduceEqDiff, Nat.reduceLT, reduceIte, g0, g7, g8, g9]))
        | (apply Ok.condF; case e => (simp (disch := omega) only [evs, Nat.reduceEqDiff, Nat.reduceLT, reduceIte, g0, g7, g8, g9]))
        | ((first | apply Ops.nil | apply Drs.nil | apply Ok.skip | apply Ok.exit | apply Ok.ret); try simp only [Then_n, Then_e, Then_r, Out_n, Out_e, Out_r, Nat.reduceEqDiff, reduceIte])
        | (apply Ok.drs (S := Sp) hmix)
        )
      refine ⟨_, fun k => res_1 _ _ _ k, ?_⟩
      simp (disch := omega) only [evs, Nat.reduceEqDiff, Nat.reduceLT, reduceIte, cond_true, cond_false, List.map_cons, List.map_nil, Nat.reduceAdd, one_1]
      have : holdsB R Q = true := decide_eq_true fun j hj => hA j (by omega)
      rw [this]; exact ⟨rfl, trivial⟩
    case ha =>
      intro hc
      have hc := of_decide_eq_true hc
      repeat (first
        | ((first | apply Ops.op | apply Ops.op0 | apply Drs.bar | apply Drs.pure); case e => (intro k; simp (disch := omega) only [evs, Nat.reduceEqDiff, Nat.reduceLT, reduceIte, cond_true, cond_false, Nat.reduceAdd, g0, g7, g8, g9, hQ.idx, hQ.rd, hR.idx, hR.rd]; rfl))
        | ((first | apply Ops.g1 | apply Drs.g1); case e => (simp (disch := omega) only [evs, Nat.reduceEqDiff, Nat.reduceLT, reduceIte, g0, g7, g8, g9, hQ.idx, hQ.rd, hR.idx, hR.rd]))
        | ((first | apply Ops.g0t | apply Ops.g0f | apply Drs.g0t | apply Drs.g0f); case e => (simp (disch := omega) only [evs, Nat.reduceEqDiff, Nat.reduceLT, reduceIte, g0, g7, g8, g9, hQ.idx, hQ.rd, hR.idx, hR.rd]))
        | ((first | apply Ops.g0u | apply Drs.g0u); case e => (simp (disch := omega) only [evs, Nat.reduceEqDiff, Nat.reduceLT, reduceIte, g0, g7, g8, g9, hQ.idx, hQ.rd, hR.idx, hR.rd]))
        | apply Ok.seq
        | apply Ok.block
        | (apply Ok.ops (S := Sp))
        | (apply Ok.condT; case e => (simp (disch := omega) only [evs, Nat.reduceEqDiff, Nat.reduceLT, reduceIte, g0, g7, g8, g9, hQ.idx, hQ.rd, hR.idx, hR.rd]))
        | (apply Ok.condF; case e => (simp (disch := omega) only [evs, Nat.reduceEqDiff, Nat.reduceLT, reduceIte, g0, g7, g8, g9, hQ.idx, hQ.rd, hR.idx, hR.rd]))
        | ((first | apply Ops.nil | apply Drs.nil | apply Ok.skip | apply Ok.exit | apply Ok.ret); try simp only [Then_n, Then_e, Then_r, Out_n, Out_e, Out_r, Nat.reduceEqDiff, reduceIte])
        | (apply Ok.drs (S := Sp) hmix)
        )
      cases hq : Q.getD i false
      · repeat (first
          | ((first | apply Ops.op | apply Ops.op0 | apply Drs.bar | apply Drs.pure); case e => (intro k; simp (disch := omega) only [evs, Nat.reduceEqDiff, Nat.reduceLT, reduceIte, cond_true, cond_false, Nat.reduceAdd, g0, g7, g8, g9, hQ.idx, hQ.rd, hR.idx, hR.rd, hq]; rfl))
          | ((first | apply Ops.g1 | apply Drs.g1); case e => (simp (disch := omega) only [evs, Nat.reduceEqDiff, Nat.reduceLT, reduceIte, g0, g7, g8, g9, hQ.idx, hQ.rd, hR.idx, hR.rd, hq]))
          | ((first | apply Ops.g0t | apply Ops.g0f | apply Drs.g0t | apply Drs.g0f); case e => (simp (disch := omega) only [evs, Nat.reduceEqDiff, Nat.reduceLT, reduceIte, g0, g7, g8, g9, hQ.idx, hQ.rd, hR.idx, hR.rd, hq]))
          | ((first | apply Ops.g0u | apply Drs.g0u); case e => (simp (disch := omega) only [evs, Nat.reduceEqDiff, Nat.reduceLT, reduceIte, g0, g7, g8, g9, hQ.idx, hQ.rd, hR.idx, hR.rd, hq]))
          | apply Ok.seq
          | apply Ok.block
          | (apply Ok.ops (S := Sp))
          | (apply Ok.condT; case e => (simp (disch := omega) only [evs, Nat.reduceEqDiff, Nat.reduceLT, reduceIte, g0, g7, g8, g9, hQ.idx, hQ.rd, hR.idx, hR.rd, hq]))
          | (apply Ok.condF; case e => (simp (disch := omega) only [evs, Nat.reduceEqDiff, Nat.reduceLT, reduceIte, g0, g7, g8, g9, hQ.idx, hQ.rd, hR.idx, hR.rd, hq]))
          | ((first | apply Ops.nil | apply Drs.nil | apply Ok.skip | apply Ok.exit | apply Ok.ret); try simp only [Then_n, Then_e, Then_r, Out_n, Out_e, Out_r, Nat.reduceEqDiff, reduceIte])
          | (apply Ok.drs (S := Sp) hmix)
          )
        refine ⟨Q.length - (i + 1), by omega, i + 1, by omega, rfl, by trivial, by simp (disch := omega) only [evs, Nat.reduceEqDiff, Nat.reduceLT, reduceIte, cond_true, cond_false, List.map_cons, List.map_nil, Nat.reduceAdd, g0], by simp (disch := omega) only [evs, Nat.reduceEqDiff, Nat.reduceLT, reduceIte, cond_true, cond_false, List.map_cons, List.map_nil, Nat.reduceAdd, g7], by simp (disch := omega) only [evs, Nat.reduceEqDiff, Nat.reduceLT, reduceIte, cond_true, cond_false, List.map_cons, List.map_nil, Nat.reduceAdd, g8], by simp (disch := omega) only [evs, Nat.reduceEqDiff, Nat.reduceLT, reduceIte, cond_true, cond_false, List.map_cons, List.map_nil, Nat.reduceAdd, g9, Int.natCast_add, Int.natCast_one], fun j hj hj2 => ?_⟩
        by_cases hji : j = i
        · subst hji; rw [hq] at hj2; cases hj2
        · exact hA j (by omega) hj2
      · cases hr : R.getD i false
        · repeat (first
            | ((first | apply Ops.op | apply Ops.op0 | apply Drs.bar | apply Drs.pure); case e => (intro k; simp (disch := omega) only [evs, Nat.reduceEqDiff, Nat.reduceLT, reduceIte, cond_true, cond_false, Nat.reduceAdd, g0, g7, g8, g9, hQ.idx, hQ.rd, hR.idx, hR.rd, hq, hr]; rfl))
            | ((first | apply Ops.g1 | apply Drs.g1); case e => (simp (disch := omega) only [evs, Nat.reduceEqDiff, Nat.reduceLT, reduceIte, g0, g7, g8, g9, hQ.idx, hQ.rd, hR.idx, hR.rd, hq, hr]))
            | ((first | apply Ops.g0t | apply Ops.g0f | apply Drs.g0t | apply Drs.g0f); case e => (simp (disch := omega) only [evs, Nat.reduceEqDiff, Nat.reduceLT, reduceIte, g0, g7, g8, g9, hQ.idx, hQ.rd, hR.idx, hR.rd, hq, hr]))
            | ((first | apply Ops.g0u | apply Drs.g0u); case e => (simp (disch := omega) only [evs, Nat.reduceEqDiff, Nat.reduceLT, reduceIte, g0, g7, g8, g9, hQ.idx, hQ.rd, hR.idx, hR.rd, hq, hr]))
            | apply Ok.seq
            | apply Ok.block
            | (apply Ok.ops (S := Sp))
            | (apply Ok.condT; case e => (simp (disch := omega) only [evs, Nat.reduceEqDiff, Nat.reduceLT, reduceIte, g0, g7, g8, g9, hQ.idx, hQ.rd, hR.idx, hR.rd, hq, hr]))
            | (apply Ok.condF; case e => (simp (disch := omega) only [evs, Nat.reduceEqDiff, Nat.reduceLT, reduceIte, g0, g7, g8, g9, hQ.idx, hQ.rd, hR.idx, hR.rd, hq, hr]))
            | ((first | apply Ops.nil | apply Drs.nil | apply Ok.skip | apply Ok.exit | apply Ok.ret); try simp only [Then_n, Then_e, Then_r, Out_n, Out_e, Out_r, Nat.reduceEqDiff, reduceIte])
            | (apply Ok.drs (S := Sp) hmix)
            )
          refine ⟨_, fun k => res_1 _ _ _ k, ?_⟩
          simp (disch := omega) only [evs, Nat.reduceEqDiff, Nat.reduceLT, reduceIte, cond_true, cond_false, List.map_cons, List.map_nil, Nat.reduceAdd, one_1]
          have : holdsB R Q = false := decide_eq_false fun hh => by have := hh i (by omega) hq; rw [hr] at this; cases this
          rw [this]; exact ⟨rfl, trivial⟩
        · repeat (first
            | ((first | apply Ops.op | apply Ops.op0 | apply Drs.bar | apply Drs.pure); case e => (intro k; simp (disch := omega) only [evs, Nat.reduceEqDiff, Nat.reduceLT, reduceIte, cond_true, cond_false, Nat.reduceAdd, g0, g7, g8, g9, hQ.idx, hQ.rd, hR.idx, hR.rd, hq, hr]; rfl))
            | ((first | apply Ops.g1 | apply Drs.g1); case e => (simp (disch := omega) only [evs, Nat.reduceEqDiff, Nat.reduceLT, reduceIte, g0, g7, g8, g9, hQ.idx, hQ.rd, hR.idx, hR.rd, hq, hr]))
            | ((first | apply Ops.g0t | apply Ops.g0f | apply Drs.g0t | apply Drs.g0f); case e => (simp (disch := omega) only [evs, Nat.reduceEqDiff, Nat.reduceLT, reduceIte, g0, g7, g8, g9, hQ.idx, hQ.rd, hR.idx, hR.rd, hq, hr]))
            | ((first | apply Ops.g0u | apply Drs.g0u); case e => (simp (disch := omega) only [evs, Nat.reduceEqDiff, Nat.reduceLT, reduceIte, g0, g7, g8, g9, hQ.idx, hQ.rd, hR.idx, hR.rd, hq, hr]))
            | apply Ok.seq
            | apply Ok.block
            | (apply Ok.ops (S := Sp))
            | (apply Ok.condT; case e => (simp (disch := omega) only [evs, Nat.reduceEqDiff, Nat.reduceLT, reduceIte, g0, g7, g8, g9, hQ.idx, hQ.rd, hR.idx, hR.rd, hq, hr]))
            | (apply Ok.condF; case e => (simp (disch := omega) only [evs, Nat.reduceEqDiff, Nat.reduceLT, reduceIte, g0, g7, g8, g9, hQ.idx, hQ.rd, hR.idx, hR.rd, hq, hr]))
            | ((first | apply Ops.nil | apply Drs.nil | apply Ok.skip | apply Ok.exit | apply Ok.ret); try simp only [Then_n, Then_e, Then_r, Out_n, Out_e, Out_r, Nat.reduceEqDiff, reduceIte])
            | (apply Ok.drs (S := Sp) hmix)
            )
          refine ⟨Q.length - (i + 1), by omega, i + 1, by omega, rfl, by trivial, by simp (disch := omega) only [evs, Nat.reduceEqDiff, Nat.reduceLT, reduceIte, cond_true, cond_false, List.map_cons, List.map_nil, Nat.reduceAdd, g0], by simp (disch := omega) only [evs, Nat.reduceEqDiff, Nat.reduceLT, reduceIte, cond_true, cond_false, List.map_cons, List.map_nil, Nat.reduceAdd, g7], by simp (disch := omega) only [evs, Nat.reduceEqDiff, Nat.reduceLT, reduceIte, cond_true, cond_false, List.map_cons, List.map_nil, Nat.reduceAdd, g8], by simp (disch := omega) only [evs, Nat.reduceEqDiff, Nat.reduceLT, reduceIte, cond_true, cond_false, List.map_cons, List.map_nil, Nat.reduceAdd, g9, Int.natCast_add, Int.natCast_one], fun j hj hj2 => ?_⟩
          by_cases hji : j = i
          · subst hji; exact hr
          · exact hA j (by omega) hj2
  · exact ⟨0, Nat.zero_le _, rfl, rfl, by simp (disch := omega) only [evs, Nat.reduceEqDiff, Nat.reduceLT, reduceIte, cond_true, cond_false, List.map_cons, List.map_nil, Nat.reduceAdd], by simp (disch := omega) only [evs, Nat.reduceEqDiff, Nat.reduceLT, reduceIte, cond_true, cond_false, List.map_cons, List.map_nil, Nat.reduceAdd], by simp (disch := omega) only [evs, Nat.reduceEqDiff, Nat.reduceLT, reduceIte, cond_true, cond_false, List.map_cons, List.map_nil, Nat.reduceAdd], by simp (disch := omega) only [evs, Nat.reduceEqDiff, Nat.reduceLT, reduceIte, cond_true, cond_false, List.map_cons, List.map_nil, Nat.reduceAdd], fun j hj => absurd hj (Nat.not_lt_zero j)⟩

abbrev Mt := List (List Bool)
def at2 (M : Mt) (a b : Nat) : Bool := (M.getD a []).getD b false
def squareB (M : Mt) : Bool := decide (1 ≤ M.length ∧ M.length ≤ 6 ∧ ∀ i, i < M.length → (M.getD i []).length = M.length)

end Go.Proofs.Ytpnflehemjbemaa
