/- The functions square and ordered of package lattice, by what they compute. No condition. -/
import Derived.Test.YtpnflehemjbemaaLat1
set_option maxRecDepth 100000
set_option maxHeartbeats 4000000
set_option linter.all false
namespace Go.Proofs.Ytpnflehemjbemaa
open Go Go.Ev

theorem square_ok {h : H} {v : V} {M : Mt} (hM : Mx h v M) (hs : M.length ≤ 1000000) : FnOk Try.prog 55 [v] h fun y h' => y = .b (squareB M) ∧ h' = h := by
  refine fn_run c55 (by intro hb; cases hb) (by simp) (by simp) ?_
  simp only [slotsF, Nat.reduceAdd]
  unfold b55
  by_cases h1 : M.length < 1
  · have d1 : decide ((M.length : Int) < 1) = true := decide_eq_true (by omega)
    repeat (first
      | ((first | apply Ops.op | apply Ops.op0 | apply Drs.bar | apply Drs.pure); case e => (intro k; simp (disch := omega) only [evs, Nat.reduceEqDiff, Nat.reduceLT, reduceIte, cond_true, cond_false, Nat.reduceAdd, hM.len, d1]; rfl))
      | ((first | apply Ops.g1 | apply Drs.g1); case e => (simp (disch := omega) only [evs, Nat.reduceEqDiff, Nat.reduceLT, reduceIte, hM.len, d1]))
      | ((first | apply Ops.g0t | apply Ops.g0f | apply Drs.g0t | apply Drs.g0f); case e => (simp (disch := omega) only [evs, Nat.reduceEqDiff, Nat.reduceLT, reduceIte, hM.len, d1]))
      | ((first | apply Ops.g0u | apply Drs.g0u); case e => (simp (disch := omega) only [evs, Nat.reduceEqDiff, Nat.reduceLT, reduceIte, hM.len, d1]))
      | apply Ok.seq
      | apply Ok.block
      | (apply Ok.ops (S := Sp))
      | (apply Ok.condT; case e => (simp (disch := omega) only [evs, Nat.reduceEqDiff, Nat.reduceLT, reduceIte, hM.len, d1]))
      | (apply Ok.condF; case e => (simp (disch := omega) only [evs, Nat.reduceEqDiff, Nat.reduceLT, reduceIte, hM.len, d1]))
      | ((first | apply Ops.nil | apply Drs.nil | apply Ok.skip | apply Ok.exit | apply Ok.ret); try simp only [Then_n, Then_e, Then_r, Out_n, Out_e, Out_r, Nat.reduceEqDiff, reduceIte])
      | (apply Ok.drs (S := Sp) hmix)
      )
    refine ⟨_, fun k => res_1 _ _ _ k, ?_⟩
    simp (disch := omega) only [evs, Nat.reduceEqDiff, Nat.reduceLT, reduceIte, cond_true, cond_false, List.map_cons, List.map_nil, Nat.reduceAdd, one_1]
    have : squareB M = false := decide_eq_false fun hh => by omega
    rw [this]; exact ⟨rfl, trivial⟩
  have d1 : decide ((M.length : Int) < 1) = false := decide_eq_false (by omega)
  by_cases h6 : 6 < M.length
  · have d6 : decide ((6 : Int) < M.length) = true := decide_eq_true (by omega)
    repeat (first
      | ((first | apply Ops.op | apply Ops.op0 | apply Drs.bar | apply Drs.pure); case e => (intro k; simp (disch := omega) only [evs, Nat.reduceEqDiff, Nat.reduceLT, reduceIte, cond_true, cond_false, Nat.reduceAdd, hM.len, d1, d6]; rfl))
      | ((first | apply Ops.g1 | apply Drs.g1); case e => (simp (disch := omega) only [evs, Nat.reduceEqDiff, Nat.reduceLT, reduceIte, hM.len, d1, d6]))
      | ((first | apply Ops.g0t | apply Ops.g0f | apply Drs.g0t | apply Drs.g0f); case e => (simp (disch := omega) only [evs, Nat.reduceEqDiff, Nat.reduceLT, reduceIte, hM.len, d1, d6]))
      | ((first | apply Ops.g0u | apply Drs.g0u); case e => (simp (disch := omega) only [evs, Nat.reduceEqDiff, Nat.reduceLT, reduceIte, hM.len, d1, d6]))
      | apply Ok.seq
      | apply Ok.block
      | (apply Ok.ops (S := Sp))
      | (apply Ok.condT; case e => (simp (disch := omega) only [evs, Nat.reduceEqDiff, Nat.reduceLT, reduceIte, hM.len, d1, d6]))
      | (apply Ok.condF; case e => (simp (disch := omega) only [evs, Nat.reduceEqDiff, Nat.reduceLT, reduceIte, hM.len, d1, d6]))
      | ((first | apply Ops.nil | apply Drs.nil | apply Ok.skip | apply Ok.exit | apply Ok.ret); try simp only [Then_n, Then_e, Then_r, Out_n, Out_e, Out_r, Nat.reduceEqDiff, reduceIte])
      | (apply Ok.drs (S := Sp) hmix)
      )
    refine ⟨_, fun k => res_1 _ _ _ k, ?_⟩
    simp (disch := omega) only [evs, Nat.reduceEqDiff, Nat.reduceLT, reduceIte, cond_true, cond_false, List.map_cons, List.map_nil, Nat.reduceAdd, one_1]
    have : squareB M = false := decide_eq_false fun hh => by omega
    rw [this]; exact ⟨rfl, trivial⟩
  have d6 : decide ((6 : Int) < M.length) = false := decide_eq_false (by omega)
  repeat (first
    | ((first | apply Ops.op | apply Ops.op0 | apply Drs.bar | apply Drs.pure); case e => (intro k; simp (disch := omega) only [evs, Nat.reduceEqDiff, Nat.reduceLT, reduceIte, cond_true, cond_false, Nat.reduceAdd, hM.len, d1, d6]; rfl))
    | ((first | apply Ops.g1 | apply Drs.g1); case e => (simp (disch := omega) only [evs, Nat.reduceEqDiff, Nat.reduceLT, reduceIte, hM.len, d1, d6]))
    | ((first | apply Ops.g0t | apply Ops.g0f | apply Drs.g0t | apply Drs.g0f); case e => (simp (disch := omega) only [evs, Nat.reduceEqDiff, Nat.reduceLT, reduceIte, hM.len, d1, d6]))
    | ((first | apply Ops.g0u | apply Drs.g0u); case e => (simp (disch := omega) only [evs, Nat.reduceEqDiff, Nat.reduceLT, reduceIte, hM.len, d1, d6]))
    | apply Ok.seq
    | apply Ok.block
    | (apply Ok.ops (S := Sp))
    | (apply Ok.condT; case e => (simp (disch := omega) only [evs, Nat.reduceEqDiff, Nat.reduceLT, reduceIte, hM.len, d1, d6]))
    | (apply Ok.condF; case e => (simp (disch := omega) only [evs, Nat.reduceEqDiff, Nat.reduceLT, reduceIte, hM.len, d1, d6]))
    | ((first | apply Ops.nil | apply Drs.nil | apply Ok.skip | apply Ok.exit | apply Ok.ret); try simp only [Then_n, Then_e, Then_r, Out_n, Out_e, Out_r, Nat.reduceEqDiff, reduceIte])
    | (apply Ok.drs (S := Sp) hmix)
    )
  refine Ok.loop (fun m t h' => ∃ i : Nat, i ≤ M.length ∧ m = M.length - i ∧ h = h' ∧ get 0 t = v ∧ get 13 t = v ∧ get 14 t = .i .i64 (M.length : Int) ∧ get 15 t = .i .i64 (i : Int) ∧ ∀ j, j < i → (M.getD j []).length = M.length) ?_ M.length _ _ ?_
  · rintro m t _ ⟨i, hi, rfl, rfl, g0, g13, g14, g15, hA⟩
    unfold l55_0
    repeat (first
      | ((first | apply Ops.op | apply Ops.op0 | apply Drs.bar | apply Drs.pure); case e => (intro k; simp (disch := omega) only [evs, Nat.reduceEqDiff, Nat.reduceLT, reduceIte, cond_true, cond_false, Nat.reduceAdd, g0, g13, g14, g15]; rfl))
      | ((first | apply Ops.g1 | apply Drs.g1); case e => (simp (disch := omega) only [evs, Nat.reduceEqDiff, Nat.reduceLT, reduceIte, g0, g13, g14, g15]))
      | ((first | apply Ops.g0t | apply Ops.g0f | apply Drs.g0t | apply Drs.g0f); case e => (simp (disch := omega) only [evs, Nat.reduceEqDiff, Nat.reduceLT, reduceIte, g0, g13, g14, g15]))
      | ((first | apply Ops.g0u | apply Drs.g0u); case e => (simp (disch := omega) only [evs, Nat.reduceEqDiff, Nat.reduceLT, reduceIte, g0, g13, g14, g15]))
      | apply Ok.seq
      | apply Ok.block
      | (apply Ok.ops (S := Sp))
      | (apply Ok.condT; case e => (simp (disch := omega) only [evs, Nat.reduceEqDiff, Nat.reduceLT, reduceIte, g0, g13, g14, g15]))
      | (apply Ok.condF; case e => (simp (disch := omega) only [evs, Nat.reduceEqDiff, Nat.reduceLT, reduceIte, g0, g13, g14, g15]))
      | ((first | apply Ops.nil | apply Drs.nil | apply Ok.skip | apply Ok.exit | apply Ok.ret); try simp only [Then_n, Then_e, Then_r, Out_n, Out_e, Out_r, Nat.reduceEqDiff, reduceIte])
      | (apply Ok.drs (S := Sp) hmix)
      )
    apply Ok.cond
    case hq => (simp (disch := omega) only [evs, Nat.reduceEqDiff, Nat.reduceLT, reduceIte, cond_true, cond_false, List.map_cons, List.map_nil, Nat.reduceAdd, g0, g13, g14, g15]; rfl)
    case hb =>
      intro hc
      have hc := of_decide_eq_false hc
      repeat (first
        | ((first | apply Ops.op | apply Ops.op0 | apply Drs.bar | apply Drs.pure); case e => (intro k; simp (disch := omega) only [evs, Nat.reduceEqDiff, Nat.reduceLT, reduceIte, cond_true, cond_false, Nat.reduceAdd, g0, g13, g14, g15]; rfl))
        | ((first | apply Ops.g1 | apply Drs.g1); case e => (simp (disch := omega) only [evs, Nat.reduceEqDiff, Nat.reduceLT, reduceIte, g0, g13, g14, g15]))
        | ((first | apply Ops.g0t | apply Ops.g0f | apply Drs.g0t | apply Drs.g0f); case e => (simp (disch := omega) only [evs, Nat.reduceEqDiff, Nat.reduceLT, reduceIte, g0, g13, g14, g15]))
        | ((first | apply Ops.g0u | apply Drs.g0u); case e => (simp (disch := omega) only [evs, Nat.reduceEqDiff, Nat.reduceLT, reduceIte, g0, g13, g14, g15]))
        | apply Ok.seq
        | apply Ok.block
        | (apply Ok.ops (S := Sp))
        | (apply Ok.condT; case e => (simp (disch := omega) only [evs, Nat.reduceEqDiff, Nat.reduceLT, reduceIte, g0, g13, g14, g15]))
        | (apply Ok.condF; case e => (simp (disch := omega) only [evs, Nat.reduceEqDiff, Nat.reduceLT, reduceIte, g0, g13, g14, g15]))
        | ((first | apply Ops.nil | apply Drs.nil | apply Ok.skip | apply Ok.exit | apply Ok.ret); try simp only [Then_n, Then_e, Then_r, Out_n, Out_e, Out_r, Nat.reduceEqDiff, reduceIte])
        | (apply Ok.drs (S := Sp) hmix)
        )
      refine ⟨_, fun k => res_1 _ _ _ k, ?_⟩
      simp (disch := omega) only [evs, Nat.reduceEqDiff, Nat.reduceLT, reduceIte, cond_true, cond_false, List.map_cons, List.map_nil, Nat.reduceAdd, one_1]
      have : squareB M = true := decide_eq_true ⟨by omega, by omega, fun j hj => hA j (by omega)⟩
      rw [this]; exact ⟨rfl, trivial⟩
    case ha =>
      intro hc
      have hc := of_decide_eq_true hc
      obtain ⟨r, hr, hld⟩ := hM.rd (i := i) (by omega)
      by_cases hlen : (M.getD i []).length = M.length
      · have d : decide (((M.getD i []).length : Int) = M.length) = true := decide_eq_true (by omega)
        repeat (first
          | ((first | apply Ops.op | apply Ops.op0 | apply Drs.bar | apply Drs.pure); case e => (intro k; simp (disch := omega) only [evs, Nat.reduceEqDiff, Nat.reduceLT, reduceIte, cond_true, cond_false, Nat.reduceAdd, g0, g13, g14, g15, hM.len, hM.idx, hld, hr.len, d]; rfl))
          | ((first | apply Ops.g1 | apply Drs.g1); case e => (simp (disch := omega) only [evs, Nat.reduceEqDiff, Nat.reduceLT, reduceIte, g0, g13, g14, g15, hM.len, hM.idx, hld, hr.len, d]))
          | ((first | apply Ops.g0t | apply Ops.g0f | apply Drs.g0t | apply Drs.g0f); case e => (simp (disch := omega) only [evs, Nat.reduceEqDiff, Nat.reduceLT, reduceIte, g0, g13, g14, g15, hM.len, hM.idx, hld, hr.len, d]))
          | ((first | apply Ops.g0u | apply Drs.g0u); case e => (simp (disch := omega) only [evs, Nat.reduceEqDiff, Nat.reduceLT, reduceIte, g0, g13, g14, g15, hM.len, hM.idx, hld, hr.len, d]))
          | apply Ok.seq
          | apply Ok.block
          | (apply Ok.ops (S := Sp))
          | (apply Ok.condT; case e => (simp (disch := omega) only [evs, Nat.reduceEqDiff, Nat.reduceLT, reduceIte, g0, g13, g14, g15, hM.len, hM.idx, hld, hr.len, d]))
          | (apply Ok.condF; case e => (simp (disch := omega) only [evs, Nat.reduceEqDiff, Nat.reduceLT, reduceIte, g0, g13, g14, g15, hM.len, hM.idx, hld, hr.len, d]))
          | ((first | apply Ops.nil | apply Drs.nil | apply Ok.skip | apply Ok.exit | apply Ok.ret); try simp only [Then_n, Then_e, Then_r, Out_n, Out_e, Out_r, Nat.reduceEqDiff, reduceIte])
          | (apply Ok.drs (S := Sp) hmix)
          )
        refine ⟨M.length - (i + 1), by omega, i + 1, by omega, rfl, by trivial, by simp (disch := omega) only [evs, Nat.reduceEqDiff, Nat.reduceLT, reduceIte, cond_true, cond_false, List.map_cons, List.map_nil, Nat.reduceAdd, g0], by simp (disch := omega) only [evs, Nat.reduceEqDiff, Nat.reduceLT, reduceIte, cond_true, cond_false, List.map_cons, List.map_nil, Nat.reduceAdd, g13], by simp (disch := omega) only [evs, Nat.reduceEqDiff, Nat.reduceLT, reduceIte, cond_true, cond_false, List.map_cons, List.map_nil, Nat.reduceAdd, g14], by simp (disch := omega) only [evs, Nat.reduceEqDiff, Nat.reduceLT, reduceIte, cond_true, cond_false, List.map_cons, List.map_nil, Nat.reduceAdd, g15, Int.natCast_add, Int.natCast_one], fun j hj => ?_⟩
        by_cases hji : j = i
        · subst hji; exact hlen
        · exact hA j (by omega)
      · have d : decide (((M.getD i []).length : Int) = M.length) = false := decide_eq_false (by omega)
        repeat (first
          | ((first | apply Ops.op | apply Ops.op0 | apply Drs.bar | apply Drs.pure); case e => (intro k; simp (disch := omega) only [evs, Nat.reduceEqDiff, Nat.reduceLT, reduceIte, cond_true, cond_false, Nat.reduceAdd, g0, g13, g14, g15, hM.len, hM.idx, hld, hr.len, d]; rfl))
          | ((first | apply Ops.g1 | apply Drs.g1); case e => (simp (disch := omega) only [evs, Nat.reduceEqDiff, Nat.reduceLT, reduceIte, g0, g13, g14, g15, hM.len, hM.idx, hld, hr.len, d]))
          | ((first | apply Ops.g0t | apply Ops.g0f | apply Drs.g0t | apply Drs.g0f); case e => (simp (disch := omega) only [evs, Nat.reduceEqDiff, Nat.reduceLT, reduceIte, g0, g13, g14, g15, hM.len, hM.idx, hld, hr.len, d]))
          | ((first | apply Ops.g0u | apply Drs.g0u); case e => (simp (disch := omega) only [evs, Nat.reduceEqDiff, Nat.reduceLT, reduceIte, g0, g13, g14, g15, hM.len, hM.idx, hld, hr.len, d]))
          | apply Ok.seq
          | apply Ok.block
          | (apply Ok.ops (S := Sp))
          | (apply Ok.condT; case e => (simp (disch := omega) only [evs, Nat.reduceEqDiff, Nat.reduceLT, reduceIte, g0, g13, g14, g15, hM.len, hM.idx, hld, hr.len, d]))
          | (apply Ok.condF; case e => (simp (disch := omega) only [evs, Nat.reduceEqDiff, Nat.reduceLT, reduceIte, g0, g13, g14, g15, hM.len, hM.idx, hld, hr.len, d]))
          | ((first | apply Ops.nil | apply Drs.nil | apply Ok.skip | apply Ok.exit | apply Ok.ret); try simp only [Then_n, Then_e, Then_r, Out_n, Out_e, Out_r, Nat.reduceEqDiff, reduceIte])
          | (apply Ok.drs (S := Sp) hmix)
          )
        refine ⟨_, fun k => res_1 _ _ _ k, ?_⟩
        simp (disch := omega) only [evs, Nat.reduceEqDiff, Nat.reduceLT, reduceIte, cond_true, cond_false, List.map_cons, List.map_nil, Nat.reduceAdd, one_1]
        have : squareB M = false := decide_eq_false fun hh => hlen (hh.2.2 i (by omega))
        rw [this]; exact ⟨rfl, trivial⟩
  · exact ⟨0, Nat.zero_le _, rfl, rfl, by simp (disch := omega) only [evs, Nat.reduceEqDiff, Nat.reduceLT, reduceIte, cond_true, cond_false, List.map_cons, List.map_nil, Nat.reduceAdd], by simp (disch := omega) only [evs, Nat.reduceEqDiff, Nat.reduceLT, reduceIte, cond_true, cond_false, List.map_cons, List.map_nil, Nat.reduceAdd], by simp (disch := omega) only [evs, Nat.reduceEqDiff, Nat.reduceLT, reduceIte, cond_true, cond_false, List.map_cons, List.map_nil, Nat.reduceAdd], by simp (disch := omega) only [evs, Nat.reduceEqDiff, Nat.reduceLT, reduceIte, cond_true, cond_false, List.map_cons, List.map_nil, Nat.reduceAdd], fun j hj => absurd hj (Nat.not_lt_zero j)⟩

/-- what a round over b asks -/
def rowOk (M : Mt) (a b : Nat) : Bool := !at2 M a b || (b == a || (!at2 M b a && holdsB (M.getD a []) (M.getD b [])))
def orderedB (M : Mt) : Bool := decide (∀ a, a < M.length → at2 M a a = true ∧ ∀ b, b < M.length → rowOk M a b = true)

theorem ordered_ok {h : H} {v : V} {M : Mt} (hM : Mx h v M) (hs : M.length ≤ 1000) (hq : ∀ i, i < M.length → (M.getD i []).length = M.length) : FnOk Try.prog 56 [v] h fun y h' => y = .b (orderedB M) ∧ h' = h := by
  refine fn_run c56 (by intro hb; cases hb) (by simp) (by simp) ?_
  simp only [slotsF, Nat.reduceAdd]
  unfold b56
  repeat (first
    | ((first | apply Ops.op | apply Ops.op0 | apply Drs.bar | apply Drs.pure); case e => (intro k; simp (disch := omega) only [evs, Nat.reduceEqDiff, Nat.reduceLT, reduceIte, cond_true, cond_false, Nat.reduceAdd, hM.len]; rfl))
    | ((first | apply Ops.g1 | apply Drs.g1); case e => (simp (disch := omega) only [evs, Nat.reduceEqDiff, Nat.reduceLT, reduceIte, hM.len]))
    | ((first | apply Ops.g0t | apply Ops.g0f | apply Drs.g0t | apply Drs.g0f); case e => (simp (disch := omega) only [evs, Nat.reduceEqDiff, Nat.reduceLT, reduceIte, hM.len]))
    | ((first | apply Ops.g0u | apply Drs.g0u); case e => (simp (disch := omega) only [evs, Nat.reduceEqDiff, Nat.reduceLT, reduceIte, hM.len]))
    | apply Ok.seq
    | apply Ok.block
    | (apply Ok.ops (S := Sp))
    | (apply Ok.condT; case e => (simp (disch := omega) only [evs, Nat.reduceEqDiff, Nat.reduceLT, reduceIte, hM.len]))
    | (apply Ok.condF; case e => (simp (disch := omega) only [evs, Nat.reduceEqDiff, Nat.reduceLT, reduceIte, hM.len]))
    | ((first | apply Ops.nil | apply Drs.nil | apply Ok.skip | apply Ok.exit | apply Ok.ret); try simp only [Then_n, Then_e, Then_r, Out_n, Out_e, Out_r, Nat.reduceEqDiff, reduceIte])
    | (apply Ok.drs (S := Sp) hmix)
    )
  refine Ok.loop (fun m t h' => ∃ i : Nat, i ≤ M.length ∧ m = M.length - i ∧ h = h' ∧ get 0 t = v ∧ get 7 t = v ∧ get 8 t = .i .i64 (M.length : Int) ∧ get 9 t = .i .i64 (i : Int) ∧ ∀ a, a < i → at2 M a a = true ∧ ∀ b, b < M.length → rowOk M a b = true) ?_ M.length _ _ ?_
  · rintro m t _ ⟨i, hi, rfl, rfl, g0, g7, g8, g9, hA⟩
    unfold l56_0
    repeat (first
      | ((first | apply Ops.op | apply Ops.op0 | apply Drs.bar | apply Drs.pure); case e => (intro k; simp (disch := omega) only [evs, Nat.reduceEqDiff, Nat.reduceLT, reduceIte, cond_true, cond_false, Nat.reduceAdd, g0, g7, g8, g9]; rfl))
      | ((first | apply Ops.g1 | apply Drs.g1); case e => (simp (disch := omega) only [evs, Nat.reduceEqDiff, Nat.reduceLT, reduceIte, g0, g7, g8, g9]))
      | ((first | apply Ops.g0t | apply Ops.g0f | apply Drs.g0t | apply Drs.g0f); case e => (simp (disch := omega) only [evs, Nat.reduceEqDiff, Nat.reduceLT, reduceIte, g0, g7, g8, g9]))
      | ((first | apply Ops.g0u | apply Drs.g0u); case e => (simp (disch := omega) only [evs, Nat.reduceEqDiff, Nat.reduceLT, reduceIte, g0, g7, g8, g9]))
      | apply Ok.seq
      | apply Ok.block
      | (apply Ok.ops (S := Sp))
      | (apply Ok.condT; case e => (simp (disch := omega) only [evs, Nat.reduceEqDiff, Nat.reduceLT, reduceIte, g0, g7, g8, g9]))
      | (apply Ok.condF; case e => (simp (disch := omega) only [evs, Nat.reduceEqDiff, Nat.reduceLT, reduceIte, g0, g7, g8, g9]))
      | ((first | apply Ops.nil | apply Drs.nil | apply Ok.skip | apply Ok.exit | apply Ok.ret); try simp only [Then_n, Then_e, Then_r, Out_n, Out_e, Out_r, Nat.reduceEqDiff, reduceIte])
      | (apply Ok.drs (S := Sp) hmix)
      )
    apply Ok.cond
    case hq => (simp (disch := omega) only [evs, Nat.reduceEqDiff, Nat.reduceLT, reduceIte, cond_true, cond_false, List.map_cons, List.map_nil, Nat.reduceAdd, g0, g7, g8, g9]; rfl)
    case hb =>
      intro hc
      have hc := of_decide_eq_false hc
      repeat (first
        | ((first | apply Ops.op | apply Ops.op0 | apply Drs.bar | apply Drs.pure); case e => (intro k; simp (disch := omega) only [evs, Nat.reduceEqDiff, Nat.reduceLT, reduceIte, cond_true, cond_false, Nat.reduceAdd, g0, g7, g8, g9]; rfl))
        | ((first | apply Ops.g1 | apply Drs.g1); case e => (simp (disch := omega) only [evs, Nat.reduceEqDiff, Nat.reduceLT, reduceIte, g0, g7, g8, g9]))
        | ((first | apply Ops.g0t | apply Ops.g0f | apply Drs.g0t | apply Drs.g0f); case e => (simp (disch := omega) only [evs, Nat.reduceEqDiff, Nat.reduceLT, reduceIte, g0, g7, g8, g9]))
        | ((first | apply Ops.g0u | apply Drs.g0u); case e => (simp (disch := omega) only [evs, Nat.reduceEqDiff, Nat.reduceLT, reduceIte, g0, g7, g8, g9]))
        | apply Ok.seq
        | apply Ok.block
        | (apply Ok.ops (S := Sp))
        | (apply Ok.condT; case e => (simp (disch := omega) only [evs, Nat.reduceEqDiff, Nat.reduceLT, reduceIte, g0, g7, g8, g9]))
        | (apply Ok.condF; case e => (simp (disch := omega) only [evs, Nat.reduceEqDiff, Nat.reduceLT, reduceIte, g0, g7, g8, g9]))
        | ((first | apply Ops.nil | apply Drs.nil | apply Ok.skip | apply Ok.exit | apply Ok.ret); try simp only [Then_n, Then_e, Then_r, Out_n, Out_e, Out_r, Nat.reduceEqDiff, reduceIte])
        | (apply Ok.drs (S := Sp) hmix)
        )
      refine ⟨_, fun k => res_1 _ _ _ k, ?_⟩
      simp (disch := omega) only [evs, Nat.reduceEqDiff, Nat.reduceLT, reduceIte, cond_true, cond_false, List.map_cons, List.map_nil, Nat.reduceAdd, one_1]
      have : orderedB M = true := decide_eq_true fun a ha => hA a (by omega)
      rw [this]; exact ⟨rfl, trivial⟩
    case ha =>
      intro hc
      have hc := of_decide_eq_true hc
      obtain ⟨r, hr, hld⟩ := hM.rd (i := i) (by omega)
      have hlen := hq i (by omega)
      cases haa : (M.getD i []).getD i false
      · repeat (first
          | ((first | apply Ops.op | apply Ops.op0 | apply Drs.bar | apply Drs.pure); case e => (intro k; simp (disch := omega) only [evs, Nat.reduceEqDiff, Nat.reduceLT, reduceIte, cond_true, cond_false, Nat.reduceAdd, g0, g7, g8, g9, hM.idx, hld, hr.idx, hr.rd, haa]; rfl))
          | ((first | apply Ops.g1 | apply Drs.g1); case e => (simp (disch := omega) only [evs, Nat.reduceEqDiff, Nat.reduceLT, reduceIte, g0, g7, g8, g9, hM.idx, hld, hr.idx, hr.rd, haa]))
          | ((first | apply Ops.g0t | apply Ops.g0f | apply Drs.g0t | apply Drs.g0f); case e => (simp (disch := omega) only [evs, Nat.reduceEqDiff, Nat.reduceLT, reduceIte, g0, g7, g8, g9, hM.idx, hld, hr.idx, hr.rd, haa]))
          | ((first | apply Ops.g0u | apply Drs.g0u); case e => (simp (disch := omega) only [evs, Nat.reduceEqDiff, Nat.reduceLT, reduceIte, g0, g7, g8, g9, hM.idx, hld, hr.idx, hr.rd, haa]))
          | apply Ok.seq
          | apply Ok.block
          | (apply Ok.ops (S := Sp))
          | (apply Ok.condT; case e => (simp (disch := omega) only [evs, Nat.reduceEqDiff, Nat.reduceLT, reduceIte, g0, g7, g8, g9, hM.idx, hld, hr.idx, hr.rd, haa]))
          | (apply Ok.condF; case e => (simp (disch := omega) only [evs, Nat.reduceEqDiff, Nat.reduceLT, reduceIte, g0, g7, g8, g9, hM.idx, hld, hr.idx, hr.rd, haa]))
          | ((first | apply Ops.nil | apply Drs.nil | apply Ok.skip | apply Ok.exit | apply Ok.ret); try simp only [Then_n, Then_e, Then_r, Out_n, Out_e, Out_r, Nat.reduceEqDiff, reduceIte])
          | (apply Ok.drs (S := Sp) hmix)
          )
        refine ⟨_, fun k => res_1 _ _ _ k, ?_⟩
        simp (disch := omega) only [evs, Nat.reduceEqDiff, Nat.reduceLT, reduceIte, cond_true, cond_false, List.map_cons, List.map_nil, Nat.reduceAdd, one_1]
        have : orderedB M = false := decide_eq_false fun hh => by
          have := (hh i (by omega)).1
          unfold at2 at this
          rw [haa] at this; cases this
        rw [this]; exact ⟨rfl, trivial⟩
      · repeat (first
          | ((first | apply Ops.op | apply Ops.op0 | apply Drs.bar | apply Drs.pure); case e => (intro k; simp (disch := omega) only [evs, Nat.reduceEqDiff, Nat.reduceLT, reduceIte, cond_true, cond_false, Nat.reduceAdd, g0, g7, g8, g9, hM.idx, hld, hr.idx, hr.rd, hr.len, haa]; rfl))
          | ((first | apply Ops.g1 | apply Drs.g1); case e => (simp (disch := omega) only [evs, Nat.reduceEqDiff, Nat.reduceLT, reduceIte, g0, g7, g8, g9, hM.idx, hld, hr.idx, hr.rd, hr.len, haa]))
          | ((first | apply Ops.g0t | apply Ops.g0f | apply Drs.g0t | apply Drs.g0f); case e => (simp (disch := omega) only [evs, Nat.reduceEqDiff, Nat.reduceLT, reduceIte, g0, g7, g8, g9, hM.idx, hld, hr.idx, hr.rd, hr.len, haa]))
          | ((first | apply Ops.g0u | apply Drs.g0u); case e => (simp (disch := omega) only [evs, Nat.reduceEqDiff, Nat.reduceLT, reduceIte, g0, g7, g8, g9, hM.idx, hld, hr.idx, hr.rd, hr.len, haa]))
          | apply Ok.seq
          | apply Ok.block
          | (apply Ok.ops (S := Sp))
          | (apply Ok.condT; case e => (simp (disch := omega) only [evs, Nat.reduceEqDiff, Nat.reduceLT, reduceIte, g0, g7, g8, g9, hM.idx, hld, hr.idx, hr.rd, hr.len, haa]))
          | (apply Ok.condF; case e => (simp (disch := omega) only [evs, Nat.reduceEqDiff, Nat.reduceLT, reduceIte, g0, g7, g8, g9, hM.idx, hld, hr.idx, hr.rd, hr.len, haa]))
          | ((first | apply Ops.nil | apply Drs.nil | apply Ok.skip | apply Ok.exit | apply Ok.ret); try simp only [Then_n, Then_e, Then_r, Out_n, Out_e, Out_r, Nat.reduceEqDiff, reduceIte])
          | (apply Ok.drs (S := Sp) hmix)
          )
        refine Ok.loop (fun m t h' => ∃ j : Nat, j ≤ M.length ∧ m = M.length - j ∧ h = h' ∧ get 0 t = v ∧ get 3 t = .i .i64 (i : Int) ∧ get 4 t = r ∧ get 7 t = v ∧ get 8 t = .i .i64 (M.length : Int) ∧ get 9 t = .i .i64 (i : Int) ∧ get 19 t = r ∧ get 20 t = .i .i64 (M.length : Int) ∧ get 21 t = .i .i64 (j : Int) ∧ ∀ b, b < j → rowOk M i b = true) ?_ M.length _ _ ?_
        · rintro m t _ ⟨j, hj, rfl, rfl, f0, f3, f4, f7, f8, f9, f19, f20, f21, hB⟩
          unfold l56_1
          repeat (first
            | ((first | apply Ops.op | apply Ops.op0 | apply Drs.bar | apply Drs.pure); case e => (intro k; simp (disch := omega) only [evs, Nat.reduceEqDiff, Nat.reduceLT, reduceIte, cond_true, cond_false, Nat.reduceAdd, f0, f3, f4, f7, f8, f9, f19, f20, f21]; rfl))
            | ((first | apply Ops.g1 | apply Drs.g1); case e => (simp (disch := omega) only [evs, Nat.reduceEqDiff, Nat.reduceLT, reduceIte, f0, f3, f4, f7, f8, f9, f19, f20, f21]))
            | ((first | apply Ops.g0t | apply Ops.g0f | apply Drs.g0t | apply Drs.g0f); case e => (simp (disch := omega) only [evs, Nat.reduceEqDiff, Nat.reduceLT, reduceIte, f0, f3, f4, f7, f8, f9, f19, f20, f21]))
            | ((first | apply Ops.g0u | apply Drs.g0u); case e => (simp (disch := omega) only [evs, Nat.reduceEqDiff, Nat.reduceLT, reduceIte, f0, f3, f4, f7, f8, f9, f19, f20, f21]))
            | apply Ok.seq
            | apply Ok.block
            | (apply Ok.ops (S := Sp))
            | (apply Ok.condT; case e => (simp (disch := omega) only [evs, Nat.reduceEqDiff, Nat.reduceLT, reduceIte, f0, f3, f4, f7, f8, f9, f19, f20, f21]))
            | (apply Ok.condF; case e => (simp (disch := omega) only [evs, Nat.reduceEqDiff, Nat.reduceLT, reduceIte, f0, f3, f4, f7, f8, f9, f19, f20, f21]))
            | ((first | apply Ops.nil | apply Drs.nil | apply Ok.skip | apply Ok.exit | apply Ok.ret); try simp only [Then_n, Then_e, Then_r, Out_n, Out_e, Out_r, Nat.reduceEqDiff, reduceIte])
            | (apply Ok.drs (S := Sp) hmix)
            )
          apply Ok.cond
          case hq => (simp (disch := omega) only [evs, Nat.reduceEqDiff, Nat.reduceLT, reduceIte, cond_true, cond_false, List.map_cons, List.map_nil, Nat.reduceAdd, f20, f21]; rfl)
          case hb =>
            intro hc2
            have hc2 := of_decide_eq_false hc2
            repeat (first
              | ((first | apply Ops.op | apply Ops.op0 | apply Drs.bar | apply Drs.pure); case e => (intro k; simp (disch := omega) only [evs, Nat.reduceEqDiff, Nat.reduceLT, reduceIte, cond_true, cond_false, Nat.reduceAdd, f0, f3, f4, f7, f8, f9, f19, f20, f21]; rfl))
              | ((first | apply Ops.g1 | apply Drs.g1); case e => (simp (disch := omega) only [evs, Nat.reduceEqDiff, Nat.reduceLT, reduceIte, f0, f3, f4, f7, f8, f9, f19, f20, f21]))
              | ((first | apply Ops.g0t | apply Ops.g0f | apply Drs.g0t | apply Drs.g0f); case e => (simp (disch := omega) only [evs, Nat.reduceEqDiff, Nat.reduceLT, reduceIte, f0, f3, f4, f7, f8, f9, f19, f20, f21]))
              | ((first | apply Ops.g0u | apply Drs.g0u); case e => (simp (disch := omega) only [evs, Nat.reduceEqDiff, Nat.reduceLT, reduceIte, f0, f3, f4, f7, f8, f9, f19, f20, f21]))
              | apply Ok.seq
              | apply Ok.block
              | (apply Ok.ops (S := Sp))
              | (apply Ok.condT; case e => (simp (disch := omega) only [evs, Nat.reduceEqDiff, Nat.reduceLT, reduceIte, f0, f3, f4, f7, f8, f9, f19, f20, f21]))
              | (apply Ok.condF; case e => (simp (disch := omega) only [evs, Nat.reduceEqDiff, Nat.reduceLT, reduceIte, f0, f3, f4, f7, f8, f9, f19, f20, f21]))
              | ((first | apply Ops.nil | apply Drs.nil | apply Ok.skip | apply Ok.exit | apply Ok.ret); try simp only [Then_n, Then_e, Then_r, Out_n, Out_e, Out_r, Nat.reduceEqDiff, reduceIte])
              | (apply Ok.drs (S := Sp) hmix)
              )
            refine ⟨M.length - (i + 1), by omega, i + 1, by omega, rfl, by trivial, by simp (disch := omega) only [evs, Nat.reduceEqDiff, Nat.reduceLT, reduceIte, cond_true, cond_false, List.map_cons, List.map_nil, Nat.reduceAdd, f0], by simp (disch := omega) only [evs, Nat.reduceEqDiff, Nat.reduceLT, reduceIte, cond_true, cond_false, List.map_cons, List.map_nil, Nat.reduceAdd, f7], by simp (disch := omega) only [evs, Nat.reduceEqDiff, Nat.reduceLT, reduceIte, cond_true, cond_false, List.map_cons, List.map_nil, Nat.reduceAdd, f8], by simp (disch := omega) only [evs, Nat.reduceEqDiff, Nat.reduceLT, reduceIte, cond_true, cond_false, List.map_cons, List.map_nil, Nat.reduceAdd, f9, Int.natCast_add, Int.natCast_one], fun a ha => ?_⟩
            by_cases hai : a = i
            · subst hai; exact ⟨haa, fun b hb => hB b (by omega)⟩
            · exact hA a (by omega)
          case ha =>
            intro hc2
            have hc2 := of_decide_eq_true hc2
            have hlj := hq j (by omega)
            obtain ⟨q, hqr, hqld⟩ := hM.rd (i := j) (by omega)
            obtain ⟨Sx, hSx⟩ : ∃ S : Ev.Spec, S = fun _ _ _ y h' => y = .b (holdsB (M.getD i []) (M.getD j [])) ∧ h' = h := ⟨_, rfl⟩
            have bad : rowOk M i j = false → V.b false = V.b (orderedB M) ∧ True := fun hbad => by
              have : orderedB M = false := decide_eq_false fun hh => by
                have := (hh i (by omega)).2 j (by omega)
                rw [hbad] at this; cases this
              rw [this]; exact ⟨rfl, trivial⟩
            cases hij : (M.getD i []).getD j false
            · repeat (first
                | ((first | apply Ops.op | apply Ops.op0 | apply Drs.bar | apply Drs.pure); case e => (intro k; simp (disch := omega) only [evs, Nat.reduceEqDiff, Nat.reduceLT, reduceIte, cond_true, cond_false, Nat.reduceAdd, f0, f3, f4, f7, f8, f9, f19, f20, f21, hM.idx, hld, hqld, hr.idx, hr.rd, hr.len, hqr.idx, hqr.rd, haa, hij]; rfl))
                | ((first | apply Ops.g1 | apply Drs.g1); case e => (simp (disch := omega) only [evs, Nat.reduceEqDiff, Nat.reduceLT, reduceIte, f0, f3, f4, f7, f8, f9, f19, f20, f21, hM.idx, hld, hqld, hr.idx, hr.rd, hr.len, hqr.idx, hqr.rd, haa, hij]))
                | ((first | apply Ops.g0t | apply Ops.g0f | apply Drs.g0t | apply Drs.g0f); case e => (simp (disch := omega) only [evs, Nat.reduceEqDiff, Nat.reduceLT, reduceIte, f0, f3, f4, f7, f8, f9, f19, f20, f21, hM.idx, hld, hqld, hr.idx, hr.rd, hr.len, hqr.idx, hqr.rd, haa, hij]))
                | ((first | apply Ops.g0u | apply Drs.g0u); case e => (simp (disch := omega) only [evs, Nat.reduceEqDiff, Nat.reduceLT, reduceIte, f0, f3, f4, f7, f8, f9, f19, f20, f21, hM.idx, hld, hqld, hr.idx, hr.rd, hr.len, hqr.idx, hqr.rd, haa, hij]))
                | apply Ok.seq
                | apply Ok.block
                | (apply Ok.ops (S := Sp))
                | (apply Ok.condT; case e => (simp (disch := omega) only [evs, Nat.reduceEqDiff, Nat.reduceLT, reduceIte, f0, f3, f4, f7, f8, f9, f19, f20, f21, hM.idx, hld, hqld, hr.idx, hr.rd, hr.len, hqr.idx, hqr.rd, haa, hij]))
                | (apply Ok.condF; case e => (simp (disch := omega) only [evs, Nat.reduceEqDiff, Nat.reduceLT, reduceIte, f0, f3, f4, f7, f8, f9, f19, f20, f21, hM.idx, hld, hqld, hr.idx, hr.rd, hr.len, hqr.idx, hqr.rd, haa, hij]))
                | ((first | apply Ops.nil | apply Drs.nil | apply Ok.skip | apply Ok.exit | apply Ok.ret); try simp only [Then_n, Then_e, Then_r, Out_n, Out_e, Out_r, Nat.reduceEqDiff, reduceIte])
                | (apply Ok.drs (S := Sp) hmix)
                )
              refine ⟨M.length - (j + 1), by omega, j + 1, by omega, rfl, by trivial, by simp (disch := omega) only [evs, Nat.reduceEqDiff, Nat.reduceLT, reduceIte, cond_true, cond_false, List.map_cons, List.map_nil, Nat.reduceAdd, f0], by simp (disch := omega) only [evs, Nat.reduceEqDiff, Nat.reduceLT, reduceIte, cond_true, cond_false, List.map_cons, List.map_nil, Nat.reduceAdd, f3], by simp (disch := omega) only [evs, Nat.reduceEqDiff, Nat.reduceLT, reduceIte, cond_true, cond_false, List.map_cons, List.map_nil, Nat.reduceAdd, f4], by simp (disch := omega) only [evs, Nat.reduceEqDiff, Nat.reduceLT, reduceIte, cond_true, cond_false, List.map_cons, List.map_nil, Nat.reduceAdd, f7], by simp (disch := omega) only [evs, Nat.reduceEqDiff, Nat.reduceLT, reduceIte, cond_true, cond_false, List.map_cons, List.map_nil, Nat.reduceAdd, f8], by simp (disch := omega) only [evs, Nat.reduceEqDiff, Nat.reduceLT, reduceIte, cond_true, cond_false, List.map_cons, List.map_nil, Nat.reduceAdd, f9], by simp (disch := omega) only [evs, Nat.reduceEqDiff, Nat.reduceLT, reduceIte, cond_true, cond_false, List.map_cons, List.map_nil, Nat.reduceAdd, f19], by simp (disch := omega) only [evs, Nat.reduceEqDiff, Nat.reduceLT, reduceIte, cond_true, cond_false, List.map_cons, List.map_nil, Nat.reduceAdd, f20], by simp (disch := omega) only [evs, Nat.reduceEqDiff, Nat.reduceLT, reduceIte, cond_true, cond_false, List.map_cons, List.map_nil, Nat.reduceAdd, f21, Int.natCast_add, Int.natCast_one], fun b hb => ?_⟩
              by_cases hbj : b = j
              · subst hbj; unfold rowOk at2; rw [hij]; rfl
              · exact hB b (by omega)
            · by_cases hji : j = i
              · have d : decide ((j : Int) = (i : Int)) = true := decide_eq_true (by omega)
                repeat (first
                  | ((first | apply Ops.op | apply Ops.op0 | apply Drs.bar | apply Drs.pure); case e => (intro k; simp (disch := omega) only [evs, Nat.reduceEqDiff, Nat.reduceLT, reduceIte, cond_true, cond_false, Nat.reduceAdd, f0, f3, f4, f7, f8, f9, f19, f20, f21, hM.idx, hld, hqld, hr.idx, hr.rd, hr.len, hqr.idx, hqr.rd, haa, hij, d]; rfl))
                  | ((first | apply Ops.g1 | apply Drs.g1); case e => (simp (disch := omega) only [evs, Nat.reduceEqDiff, Nat.reduceLT, reduceIte, f0, f3, f4, f7, f8, f9, f19, f20, f21, hM.idx, hld, hqld, hr.idx, hr.rd, hr.len, hqr.idx, hqr.rd, haa, hij, d]))
                  | ((first | apply Ops.g0t | apply Ops.g0f | apply Drs.g0t | apply Drs.g0f); case e => (simp (disch := omega) only [evs, Nat.reduceEqDiff, Nat.reduceLT, reduceIte, f0, f3, f4, f7, f8, f9, f19, f20, f21, hM.idx, hld, hqld, hr.idx, hr.rd, hr.len, hqr.idx, hqr.rd, haa, hij, d]))
                  | ((first | apply Ops.g0u | apply Drs.g0u); case e => (simp (disch := omega) only [evs, Nat.reduceEqDiff, Nat.reduceLT, reduceIte, f0, f3, f4, f7, f8, f9, f19, f20, f21, hM.idx, hld, hqld, hr.idx, hr.rd, hr.len, hqr.idx, hqr.rd, haa, hij, d]))
                  | apply Ok.seq
                  | apply Ok.block
                  | (apply Ok.ops (S := Sp))
                  | (apply Ok.condT; case e => (simp (disch := omega) only [evs, Nat.reduceEqDiff, Nat.reduceLT, reduceIte, f0, f3, f4, f7, f8, f9, f19, f20, f21, hM.idx, hld, hqld, hr.idx, hr.rd, hr.len, hqr.idx, hqr.rd, haa, hij, d]))
                  | (apply Ok.condF; case e => (simp (disch := omega) only [evs, Nat.reduceEqDiff, Nat.reduceLT, reduceIte, f0, f3, f4, f7, f8, f9, f19, f20, f21, hM.idx, hld, hqld, hr.idx, hr.rd, hr.len, hqr.idx, hqr.rd, haa, hij, d]))
                  | ((first | apply Ops.nil | apply Drs.nil | apply Ok.skip | apply Ok.exit | apply Ok.ret); try simp only [Then_n, Then_e, Then_r, Out_n, Out_e, Out_r, Nat.reduceEqDiff, reduceIte])
                  | (apply Ok.drs (S := Sp) hmix)
                  )
                refine ⟨M.length - (j + 1), by omega, j + 1, by omega, rfl, by trivial, by simp (disch := omega) only [evs, Nat.reduceEqDiff, Nat.reduceLT, reduceIte, cond_true, cond_false, List.map_cons, List.map_nil, Nat.reduceAdd, f0], by simp (disch := omega) only [evs, Nat.reduceEqDiff, Nat.reduceLT, reduceIte, cond_true, cond_false, List.map_cons, List.map_nil, Nat.reduceAdd, f3], by simp (disch := omega) only [evs, Nat.reduceEqDiff, Nat.reduceLT, reduceIte, cond_true, cond_false, List.map_cons, List.map_nil, Nat.reduceAdd, f4], by simp (disch := omega) only [evs, Nat.reduceEqDiff, Nat.reduceLT, reduceIte, cond_true, cond_false, List.map_cons, List.map_nil, Nat.reduceAdd, f7], by simp (disch := omega) only [evs, Nat.reduceEqDiff, Nat.reduceLT, reduceIte, cond_true, cond_false, List.map_cons, List.map_nil, Nat.reduceAdd, f8], by simp (disch := omega) only [evs, Nat.reduceEqDiff, Nat.reduceLT, reduceIte, cond_true, cond_false, List.map_cons, List.map_nil, Nat.reduceAdd, f9], by simp (disch := omega) only [evs, Nat.reduceEqDiff, Nat.reduceLT, reduceIte, cond_true, cond_false, List.map_cons, List.map_nil, Nat.reduceAdd, f19], by simp (disch := omega) only [evs, Nat.reduceEqDiff, Nat.reduceLT, reduceIte, cond_true, cond_false, List.map_cons, List.map_nil, Nat.reduceAdd, f20], by simp (disch := omega) only [evs, Nat.reduceEqDiff, Nat.reduceLT, reduceIte, cond_true, cond_false, List.map_cons, List.map_nil, Nat.reduceAdd, f21, Int.natCast_add, Int.natCast_one], fun b hb => ?_⟩
                by_cases hbj : b = j
                · subst hbj; unfold rowOk; simp [hji]
                · exact hB b (by omega)
              · have d : decide ((j : Int) = (i : Int)) = false := decide_eq_false (by omega)
                cases hjj : (M.getD j []).getD i false
                · repeat (first
                    | ((first | apply Ops.op | apply Ops.op0 | apply Drs.bar | apply Drs.pure); case e => (intro k; simp (disch := omega) only [evs, Nat.reduceEqDiff, Nat.reduceLT, reduceIte, cond_true, cond_false, Nat.reduceAdd, f0, f3, f4, f7, f8, f9, f19, f20, f21, hM.idx, hld, hqld, hr.idx, hr.rd, hr.len, hqr.idx, hqr.rd, haa, hij, d, hjj]; rfl))
                    | ((first | apply Ops.g1 | apply Drs.g1); case e => (simp (disch := omega) only [evs, Nat.reduceEqDiff, Nat.reduceLT, reduceIte, f0, f3, f4, f7, f8, f9, f19, f20, f21, hM.idx, hld, hqld, hr.idx, hr.rd, hr.len, hqr.idx, hqr.rd, haa, hij, d, hjj]))
                    | ((first | apply Ops.g0t | apply Ops.g0f | apply Drs.g0t | apply Drs.g0f); case e => (simp (disch := omega) only [evs, Nat.reduceEqDiff, Nat.reduceLT, reduceIte, f0, f3, f4, f7, f8, f9, f19, f20, f21, hM.idx, hld, hqld, hr.idx, hr.rd, hr.len, hqr.idx, hqr.rd, haa, hij, d, hjj]))
                    | ((first | apply Ops.g0u | apply Drs.g0u); case e => (simp (disch := omega) only [evs, Nat.reduceEqDiff, Nat.reduceLT, reduceIte, f0, f3, f4, f7, f8, f9, f19, f20, f21, hM.idx, hld, hqld, hr.idx, hr.rd, hr.len, hqr.idx, hqr.rd, haa, hij, d, hjj]))
                    | apply Ok.seq
                    | apply Ok.block
                    | (apply Ok.ops (S := Sx))
                    | (apply Ok.condT; case e => (simp (disch := omega) only [evs, Nat.reduceEqDiff, Nat.reduceLT, reduceIte, f0, f3, f4, f7, f8, f9, f19, f20, f21, hM.idx, hld, hqld, hr.idx, hr.rd, hr.len, hqr.idx, hqr.rd, haa, hij, d, hjj]))
                    | (apply Ok.condF; case e => (simp (disch := omega) only [evs, Nat.reduceEqDiff, Nat.reduceLT, reduceIte, f0, f3, f4, f7, f8, f9, f19, f20, f21, hM.idx, hld, hqld, hr.idx, hr.rd, hr.len, hqr.idx, hqr.rd, haa, hij, d, hjj]))
                    | ((first | apply Ops.nil | apply Drs.nil | apply Ok.skip | apply Ok.exit | apply Ok.ret); try simp only [Then_n, Then_e, Then_r, Out_n, Out_e, Out_r, Nat.reduceEqDiff, reduceIte])
                    | (apply Ok.drs (S := Sx) hmix)
                    )
                  apply Ops.call
                  case e => (simp (disch := omega) only [evs, Nat.reduceEqDiff, Nat.reduceLT, reduceIte, cond_true, cond_false, List.map_cons, List.map_nil, Nat.reduceAdd, f0, f3, f4, f7, f8, f9, f19, f20, f21, hM.idx, hld, hqld, hr.idx, hr.rd, hr.len, hqr.idx, hqr.rd, haa, hij]; rfl)
                  case hf => rw [hSx]; exact holds_ok hr hqr (by omega) (by omega)
                  case k =>
                    rw [hSx]
                    rintro y h1 ⟨rfl, rfl⟩
                    cases hh : holdsB (M.getD i []) (M.getD j [])
                    · repeat (first
                        | ((first | apply Ops.op | apply Ops.op0 | apply Drs.bar | apply Drs.pure); case e => (intro k; simp (disch := omega) only [evs, Nat.reduceEqDiff, Nat.reduceLT, reduceIte, cond_true, cond_false, Nat.reduceAdd, f0, f3, f4, f7, f8, f9, f19, f20, f21, hM.idx, hld, hqld, hr.idx, hr.rd, hr.len, hqr.idx, hqr.rd, haa, hij, d, hjj]; rfl))
                        | ((first | apply Ops.g1 | apply Drs.g1); case e => (simp (disch := omega) only [evs, Nat.reduceEqDiff, Nat.reduceLT, reduceIte, f0, f3, f4, f7, f8, f9, f19, f20, f21, hM.idx, hld, hqld, hr.idx, hr.rd, hr.len, hqr.idx, hqr.rd, haa, hij, d, hjj]))
                        | ((first | apply Ops.g0t | apply Ops.g0f | apply Drs.g0t | apply Drs.g0f); case e => (simp (disch := omega) only [evs, Nat.reduceEqDiff, Nat.reduceLT, reduceIte, f0, f3, f4, f7, f8, f9, f19, f20, f21, hM.idx, hld, hqld, hr.idx, hr.rd, hr.len, hqr.idx, hqr.rd, haa, hij, d, hjj]))
                        | ((first | apply Ops.g0u | apply Drs.g0u); case e => (simp (disch := omega) only [evs, Nat.reduceEqDiff, Nat.reduceLT, reduceIte, f0, f3, f4, f7, f8, f9, f19, f20, f21, hM.idx, hld, hqld, hr.idx, hr.rd, hr.len, hqr.idx, hqr.rd, haa, hij, d, hjj]))
                        | apply Ok.seq
                        | apply Ok.block
                        | (apply Ok.ops (S := Sp))
                        | (apply Ok.condT; case e => (simp (disch := omega) only [evs, Nat.reduceEqDiff, Nat.reduceLT, reduceIte, f0, f3, f4, f7, f8, f9, f19, f20, f21, hM.idx, hld, hqld, hr.idx, hr.rd, hr.len, hqr.idx, hqr.rd, haa, hij, d, hjj]))
                        | (apply Ok.condF; case e => (simp (disch := omega) only [evs, Nat.reduceEqDiff, Nat.reduceLT, reduceIte, f0, f3, f4, f7, f8, f9, f19, f20, f21, hM.idx, hld, hqld, hr.idx, hr.rd, hr.len, hqr.idx, hqr.rd, haa, hij, d, hjj]))
                        | ((first | apply Ops.nil | apply Drs.nil | apply Ok.skip | apply Ok.exit | apply Ok.ret); try simp only [Then_n, Then_e, Then_r, Out_n, Out_e, Out_r, Nat.reduceEqDiff, reduceIte])
                        | (apply Ok.drs (S := Sp) hmix)
                        )
                      refine ⟨_, fun k => res_1 _ _ _ k, ?_⟩
                      simp (disch := omega) only [evs, Nat.reduceEqDiff, Nat.reduceLT, reduceIte, cond_true, cond_false, List.map_cons, List.map_nil, Nat.reduceAdd, one_1]
                      exact bad (by unfold rowOk at2; rw [hij, hjj, hh]; simp [hji])
                    · repeat (first
                        | ((first | apply Ops.op | apply Ops.op0 | apply Drs.bar | apply Drs.pure); case e => (intro k; simp (disch := omega) only [evs, Nat.reduceEqDiff, Nat.reduceLT, reduceIte, cond_true, cond_false, Nat.reduceAdd, f0, f3, f4, f7, f8, f9, f19, f20, f21, hM.idx, hld, hqld, hr.idx, hr.rd, hr.len, hqr.idx, hqr.rd, haa, hij, d, hjj]; rfl))
                        | ((first | apply Ops.g1 | apply Drs.g1); case e => (simp (disch := omega) only [evs, Nat.reduceEqDiff, Nat.reduceLT, reduceIte, f0, f3, f4, f7, f8, f9, f19, f20, f21, hM.idx, hld, hqld, hr.idx, hr.rd, hr.len, hqr.idx, hqr.rd, haa, hij, d, hjj]))
                        | ((first | apply Ops.g0t | apply Ops.g0f | apply Drs.g0t | apply Drs.g0f); case e => (simp (disch := omega) only [evs, Nat.reduceEqDiff, Nat.reduceLT, reduceIte, f0, f3, f4, f7, f8, f9, f19, f20, f21, hM.idx, hld, hqld, hr.idx, hr.rd, hr.len, hqr.idx, hqr.rd, haa, hij, d, hjj]))
                        | ((first | apply Ops.g0u | apply Drs.g0u); case e => (simp (disch := omega) only [evs, Nat.reduceEqDiff, Nat.reduceLT, reduceIte, f0, f3, f4, f7, f8, f9, f19, f20, f21, hM.idx, hld, hqld, hr.idx, hr.rd, hr.len, hqr.idx, hqr.rd, haa, hij, d, hjj]))
                        | apply Ok.seq
                        | apply Ok.block
                        | (apply Ok.ops (S := Sp))
                        | (apply Ok.condT; case e => (simp (disch := omega) only [evs, Nat.reduceEqDiff, Nat.reduceLT, reduceIte, f0, f3, f4, f7, f8, f9, f19, f20, f21, hM.idx, hld, hqld, hr.idx, hr.rd, hr.len, hqr.idx, hqr.rd, haa, hij, d, hjj]))
                        | (apply Ok.condF; case e => (simp (disch := omega) only [evs, Nat.reduceEqDiff, Nat.reduceLT, reduceIte, f0, f3, f4, f7, f8, f9, f19, f20, f21, hM.idx, hld, hqld, hr.idx, hr.rd, hr.len, hqr.idx, hqr.rd, haa, hij, d, hjj]))
                        | ((first | apply Ops.nil | apply Drs.nil | apply Ok.skip | apply Ok.exit | apply Ok.ret); try simp only [Then_n, Then_e, Then_r, Out_n, Out_e, Out_r, Nat.reduceEqDiff, reduceIte])
                        | (apply Ok.drs (S := Sp) hmix)
                        )
                      refine ⟨M.length - (j + 1), by omega, j + 1, by omega, rfl, by trivial, by simp (disch := omega) only [evs, Nat.reduceEqDiff, Nat.reduceLT, reduceIte, cond_true, cond_false, List.map_cons, List.map_nil, Nat.reduceAdd, f0], by simp (disch := omega) only [evs, Nat.reduceEqDiff, Nat.reduceLT, reduceIte, cond_true, cond_false, List.map_cons, List.map_nil, Nat.reduceAdd, f3], by simp (disch := omega) only [evs, Nat.reduceEqDiff, Nat.reduceLT, reduceIte, cond_true, cond_false, List.map_cons, List.map_nil, Nat.reduceAdd, f4], by simp (disch := omega) only [evs, Nat.reduceEqDiff, Nat.reduceLT, reduceIte, cond_true, cond_false, List.map_cons, List.map_nil, Nat.reduceAdd, f7], by simp (disch := omega) only [evs, Nat.reduceEqDiff, Nat.reduceLT, reduceIte, cond_true, cond_false, List.map_cons, List.map_nil, Nat.reduceAdd, f8], by simp (disch := omega) only [evs, Nat.reduceEqDiff, Nat.reduceLT, reduceIte, cond_true, cond_false, List.map_cons, List.map_nil, Nat.reduceAdd, f9], by simp (disch := omega) only [evs, Nat.reduceEqDiff, Nat.reduceLT, reduceIte, cond_true, cond_false, List.map_cons, List.map_nil, Nat.reduceAdd, f19], by simp (disch := omega) only [evs, Nat.reduceEqDiff, Nat.reduceLT, reduceIte, cond_true, cond_false, List.map_cons, List.map_nil, Nat.reduceAdd, f20], by simp (disch := omega) only [evs, Nat.reduceEqDiff, Nat.reduceLT, reduceIte, cond_true, cond_false, List.map_cons, List.map_nil, Nat.reduceAdd, f21, Int.natCast_add, Int.natCast_one], fun b hb => ?_⟩
                      by_cases hbj : b = j
                      · subst hbj; unfold rowOk at2; rw [hij, hjj, hh]; simp
                      · exact hB b (by omega)
                · repeat (first
                    | ((first | apply Ops.op | apply Ops.op0 | apply Drs.bar | apply Drs.pure); case e => (intro k; simp (disch := omega) only [evs, Nat.reduceEqDiff, Nat.reduceLT, reduceIte, cond_true, cond_false, Nat.reduceAdd, f0, f3, f4, f7, f8, f9, f19, f20, f21, hM.idx, hld, hqld, hr.idx, hr.rd, hr.len, hqr.idx, hqr.rd, haa, hij, d, hjj]; rfl))
                    | ((first | apply Ops.g1 | apply Drs.g1); case e => (simp (disch := omega) only [evs, Nat.reduceEqDiff, Nat.reduceLT, reduceIte, f0, f3, f4, f7, f8, f9, f19, f20, f21, hM.idx, hld, hqld, hr.idx, hr.rd, hr.len, hqr.idx, hqr.rd, haa, hij, d, hjj]))
                    | ((first | apply Ops.g0t | apply Ops.g0f | apply Drs.g0t | apply Drs.g0f); case e => (simp (disch := omega) only [evs, Nat.reduceEqDiff, Nat.reduceLT, reduceIte, f0, f3, f4, f7, f8, f9, f19, f20, f21, hM.idx, hld, hqld, hr.idx, hr.rd, hr.len, hqr.idx, hqr.rd, haa, hij, d, hjj]))
                    | ((first | apply Ops.g0u | apply Drs.g0u); case e => (simp (disch := omega) only [evs, Nat.reduceEqDiff, Nat.reduceLT, reduceIte, f0, f3, f4, f7, f8, f9, f19, f20, f21, hM.idx, hld, hqld, hr.idx, hr.rd, hr.len, hqr.idx, hqr.rd, haa, hij, d, hjj]))
                    | apply Ok.seq
                    | apply Ok.block
                    | (apply Ok.ops (S := Sp))
                    | (apply Ok.condT; case e => (simp (disch := omega) only [evs, Nat.reduceEqDiff, Nat.reduceLT, reduceIte, f0, f3, f4, f7, f8, f9, f19, f20, f21, hM.idx, hld, hqld, hr.idx, hr.rd, hr.len, hqr.idx, hqr.rd, haa, hij, d, hjj]))
                    | (apply Ok.condF; case e => (simp (disch := omega) only [evs, Nat.reduceEqDiff, Nat.reduceLT, reduceIte, f0, f3, f4, f7, f8, f9, f19, f20, f21, hM.idx, hld, hqld, hr.idx, hr.rd, hr.len, hqr.idx, hqr.rd, haa, hij, d, hjj]))
                    | ((first | apply Ops.nil | apply Drs.nil | apply Ok.skip | apply Ok.exit | apply Ok.ret); try simp only [Then_n, Then_e, Then_r, Out_n, Out_e, Out_r, Nat.reduceEqDiff, reduceIte])
                    | (apply Ok.drs (S := Sp) hmix)
                    )
                  refine ⟨_, fun k => res_1 _ _ _ k, ?_⟩
                  simp (disch := omega) only [evs, Nat.reduceEqDiff, Nat.reduceLT, reduceIte, cond_true, cond_false, List.map_cons, List.map_nil, Nat.reduceAdd, one_1]
                  exact bad (by unfold rowOk at2; rw [hij, hjj]; simp [hji])
        · exact ⟨0, Nat.zero_le _, rfl, rfl, by simp (disch := omega) only [evs, Nat.reduceEqDiff, Nat.reduceLT, reduceIte, cond_true, cond_false, List.map_cons, List.map_nil, Nat.reduceAdd, g0], by simp (disch := omega) only [evs, Nat.reduceEqDiff, Nat.reduceLT, reduceIte, cond_true, cond_false, List.map_cons, List.map_nil, Nat.reduceAdd], by simp (disch := omega) only [evs, Nat.reduceEqDiff, Nat.reduceLT, reduceIte, cond_true, cond_false, List.map_cons, List.map_nil, Nat.reduceAdd], by simp (disch := omega) only [evs, Nat.reduceEqDiff, Nat.reduceLT, reduceIte, cond_true, cond_false, List.map_cons, List.map_nil, Nat.reduceAdd, g7], by simp (disch := omega) only [evs, Nat.reduceEqDiff, Nat.reduceLT, reduceIte, cond_true, cond_false, List.map_cons, List.map_nil, Nat.reduceAdd, g8], by simp (disch := omega) only [evs, Nat.reduceEqDiff, Nat.reduceLT, reduceIte, cond_true, cond_false, List.map_cons, List.map_nil, Nat.reduceAdd, g9], by simp (disch := omega) only [evs, Nat.reduceEqDiff, Nat.reduceLT, reduceIte, cond_true, cond_false, List.map_cons, List.map_nil, Nat.reduceAdd], by simp (disch := omega) only [evs, Nat.reduceEqDiff, Nat.reduceLT, reduceIte, cond_true, cond_false, List.map_cons, List.map_nil, Nat.reduceAdd, hlen], by simp (disch := omega) only [evs, Nat.reduceEqDiff, Nat.reduceLT, reduceIte, cond_true, cond_false, List.map_cons, List.map_nil, Nat.reduceAdd], fun j hj => absurd hj (Nat.not_lt_zero j)⟩
  · exact ⟨0, Nat.zero_le _, rfl, rfl, by simp (disch := omega) only [evs, Nat.reduceEqDiff, Nat.reduceLT, reduceIte, cond_true, cond_false, List.map_cons, List.map_nil, Nat.reduceAdd], by simp (disch := omega) only [evs, Nat.reduceEqDiff, Nat.reduceLT, reduceIte, cond_true, cond_false, List.map_cons, List.map_nil, Nat.reduceAdd], by simp (disch := omega) only [evs, Nat.reduceEqDiff, Nat.reduceLT, reduceIte, cond_true, cond_false, List.map_cons, List.map_nil, Nat.reduceAdd], by simp (disch := omega) only [evs, Nat.reduceEqDiff, Nat.reduceLT, reduceIte, cond_true, cond_false, List.map_cons, List.map_nil, Nat.reduceAdd], fun j hj => absurd hj (Nat.not_lt_zero j)⟩
end Go.Proofs.Ytpnflehemjbemaa
