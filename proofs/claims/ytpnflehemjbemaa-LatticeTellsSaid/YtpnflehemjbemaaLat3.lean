/- The functions Check, Levels, isLevel, Dom, Above of package lattice, by what they compute. No condition. -/
import Derived.Test.YtpnflehemjbemaaLat2
import Derived.Test.YtpnflehemjbemaaIrLat
set_option maxRecDepth 100000
set_option maxHeartbeats 4000000
set_option linter.all false
namespace Go.Proofs.Ytpnflehemjbemaa
open Go Go.Ev

/-- 0, 10, 11 -/
def chkN (M : Mt) : Nat := if squareB M = true then (if orderedB M = true then 0 else 11) else 10
theorem squareB_rows {M : Mt} (h : squareB M = true) : M.length ≤ 6 ∧ ∀ i, i < M.length → (M.getD i []).length = M.length := (of_decide_eq_true h).2

theorem check_ok {h : H} {v : V} {M : Mt} (hM : Mx h v M) (hs : M.length ≤ 1000000) : FnOk Try.prog 15 [.a [v]] h fun y h' => y = .i .i64 (chkN M : Nat) ∧ Stay nowhere h h' := by
  refine fn_run c15 (by intro hb; cases hb) (by simp) (by simp) ?_
  simp only [slotsF, Nat.reduceAdd]
  unfold b15
  obtain ⟨Sx, hSx⟩ : ∃ S : Ev.Spec, S = fun f _ hh y h' => (f = 55 → y = .b (squareB M) ∧ h' = hh) ∧ (f = 56 → y = .b (orderedB M) ∧ h' = hh) := ⟨_, rfl⟩
  repeat (first
    | ((first | apply Ops.op | apply Ops.op0 | apply Drs.bar | apply Drs.pure); case e => (intro k; simp (disch := omega) only [evs, Nat.reduceEqDiff, Nat.reduceLT, reduceIte, cond_true, cond_false, Nat.reduceAdd]; rfl))
    | ((first | apply Ops.g1 | apply Drs.g1); case e => (simp (disch := omega) only [evs, Nat.reduceEqDiff, Nat.reduceLT, reduceIte]))
    | ((first | apply Ops.g0t | apply Ops.g0f | apply Drs.g0t | apply Drs.g0f); case e => (simp (disch := omega) only [evs, Nat.reduceEqDiff, Nat.reduceLT, reduceIte]))
    | ((first | apply Ops.g0u | apply Drs.g0u); case e => (simp (disch := omega) only [evs, Nat.reduceEqDiff, Nat.reduceLT, reduceIte]))
    | apply Ok.seq
    | apply Ok.block
    | (apply Ok.ops (S := Sp))
    | (apply Ok.condT; case e => (simp (disch := omega) only [evs, Nat.reduceEqDiff, Nat.reduceLT, reduceIte]))
    | (apply Ok.condF; case e => (simp (disch := omega) only [evs, Nat.reduceEqDiff, Nat.reduceLT, reduceIte]))
    | ((first | apply Ops.nil | apply Drs.nil | apply Ok.skip | apply Ok.exit | apply Ok.ret); try simp only [Then_n, Then_e, Then_r, Out_n, Out_e, Out_r, Nat.reduceEqDiff, reduceIte])
    | (apply Ok.drs (S := Sp) hmix)
    )
  apply Ops.box1
  case e => (simp (disch := omega) only [evs, Nat.reduceEqDiff, Nat.reduceLT, reduceIte, cond_true, cond_false, List.map_cons, List.map_nil, Nat.reduceAdd]; rfl)
  case k =>
    intro h1 id st hlt hge hrow
    have hM1 := hM.grow st
    repeat (first
      | ((first | apply Ops.op | apply Ops.op0 | apply Drs.bar | apply Drs.pure); case e => (intro k; simp (disch := omega) only [evs, Nat.reduceEqDiff, Nat.reduceLT, reduceIte, cond_true, cond_false, Nat.reduceAdd, hrow.rd1]; rfl))
      | ((first | apply Ops.g1 | apply Drs.g1); case e => (simp (disch := omega) only [evs, Nat.reduceEqDiff, Nat.reduceLT, reduceIte, hrow.rd1]))
      | ((first | apply Ops.g0t | apply Ops.g0f | apply Drs.g0t | apply Drs.g0f); case e => (simp (disch := omega) only [evs, Nat.reduceEqDiff, Nat.reduceLT, reduceIte, hrow.rd1]))
      | ((first | apply Ops.g0u | apply Drs.g0u); case e => (simp (disch := omega) only [evs, Nat.reduceEqDiff, Nat.reduceLT, reduceIte, hrow.rd1]))
      | apply Ok.seq
      | apply Ok.block
      | (apply Ok.ops (S := Sx))
      | (apply Ok.condT; case e => (simp (disch := omega) only [evs, Nat.reduceEqDiff, Nat.reduceLT, reduceIte, hrow.rd1]))
      | (apply Ok.condF; case e => (simp (disch := omega) only [evs, Nat.reduceEqDiff, Nat.reduceLT, reduceIte, hrow.rd1]))
      | ((first | apply Ops.nil | apply Drs.nil | apply Ok.skip | apply Ok.exit | apply Ok.ret); try simp only [Then_n, Then_e, Then_r, Out_n, Out_e, Out_r, Nat.reduceEqDiff, reduceIte])
      | (apply Ok.drs (S := Sx) hmix)
      )
    apply Ops.call
    case e => (simp (disch := omega) only [evs, Nat.reduceEqDiff, Nat.reduceLT, reduceIte, cond_true, cond_false, List.map_cons, List.map_nil, Nat.reduceAdd]; rfl)
    case hf => rw [hSx]; exact (square_ok hM1 hs).mono fun y h' hk => ⟨(fun _ => hk), (fun hh => by cases hh)⟩
    case k =>
      rw [hSx]
      rintro y h2 ⟨hy, _⟩
      obtain ⟨rfl, rfl⟩ := hy rfl
      cases hq : squareB M
      · repeat (first
          | ((first | apply Ops.op | apply Ops.op0 | apply Drs.bar | apply Drs.pure); case e => (intro k; simp (disch := omega) only [evs, Nat.reduceEqDiff, Nat.reduceLT, reduceIte, cond_true, cond_false, Nat.reduceAdd, hrow.rd1, hq]; rfl))
          | ((first | apply Ops.g1 | apply Drs.g1); case e => (simp (disch := omega) only [evs, Nat.reduceEqDiff, Nat.reduceLT, reduceIte, hrow.rd1, hq]))
          | ((first | apply Ops.g0t | apply Ops.g0f | apply Drs.g0t | apply Drs.g0f); case e => (simp (disch := omega) only [evs, Nat.reduceEqDiff, Nat.reduceLT, reduceIte, hrow.rd1, hq]))
          | ((first | apply Ops.g0u | apply Drs.g0u); case e => (simp (disch := omega) only [evs, Nat.reduceEqDiff, Nat.reduceLT, reduceIte, hrow.rd1, hq]))
          | apply Ok.seq
          | apply Ok.block
          | (apply Ok.ops (S := Sx))
          | (apply Ok.condT; case e => (simp (disch := omega) only [evs, Nat.reduceEqDiff, Nat.reduceLT, reduceIte, hrow.rd1, hq]))
          | (apply Ok.condF; case e => (simp (disch := omega) only [evs, Nat.reduceEqDiff, Nat.reduceLT, reduceIte, hrow.rd1, hq]))
          | ((first | apply Ops.nil | apply Drs.nil | apply Ok.skip | apply Ok.exit | apply Ok.ret); try simp only [Then_n, Then_e, Then_r, Out_n, Out_e, Out_r, Nat.reduceEqDiff, reduceIte])
          | (apply Ok.drs (S := Sx) hmix)
          )
        refine ⟨_, fun k => res_1 _ _ _ k, ?_⟩
        simp (disch := omega) only [evs, Nat.reduceEqDiff, Nat.reduceLT, reduceIte, cond_true, cond_false, List.map_cons, List.map_nil, Nat.reduceAdd, one_1]
        exact ⟨by simp [chkN, hq], st⟩
      · repeat (first
          | ((first | apply Ops.op | apply Ops.op0 | apply Drs.bar | apply Drs.pure); case e => (intro k; simp (disch := omega) only [evs, Nat.reduceEqDiff, Nat.reduceLT, reduceIte, cond_true, cond_false, Nat.reduceAdd, hrow.rd1, hq]; rfl))
          | ((first | apply Ops.g1 | apply Drs.g1); case e => (simp (disch := omega) only [evs, Nat.reduceEqDiff, Nat.reduceLT, reduceIte, hrow.rd1, hq]))
          | ((first | apply Ops.g0t | apply Ops.g0f | apply Drs.g0t | apply Drs.g0f); case e => (simp (disch := omega) only [evs, Nat.reduceEqDiff, Nat.reduceLT, reduceIte, hrow.rd1, hq]))
          | ((first | apply Ops.g0u | apply Drs.g0u); case e => (simp (disch := omega) only [evs, Nat.reduceEqDiff, Nat.reduceLT, reduceIte, hrow.rd1, hq]))
          | apply Ok.seq
          | apply Ok.block
          | (apply Ok.ops (S := Sx))
          | (apply Ok.condT; case e => (simp (disch := omega) only [evs, Nat.reduceEqDiff, Nat.reduceLT, reduceIte, hrow.rd1, hq]))
          | (apply Ok.condF; case e => (simp (disch := omega) only [evs, Nat.reduceEqDiff, Nat.reduceLT, reduceIte, hrow.rd1, hq]))
          | ((first | apply Ops.nil | apply Drs.nil | apply Ok.skip | apply Ok.exit | apply Ok.ret); try simp only [Then_n, Then_e, Then_r, Out_n, Out_e, Out_r, Nat.reduceEqDiff, reduceIte])
          | (apply Ok.drs (S := Sx) hmix)
          )
        apply Ops.call
        case e => (simp (disch := omega) only [evs, Nat.reduceEqDiff, Nat.reduceLT, reduceIte, cond_true, cond_false, List.map_cons, List.map_nil, Nat.reduceAdd]; rfl)
        case hf => rw [hSx]; exact (ordered_ok hM1 (by have := (squareB_rows hq).1; omega) (squareB_rows hq).2).mono fun y h' hk => ⟨(fun hh => by cases hh), (fun _ => hk)⟩
        case k =>
          rw [hSx]
          rintro y h3 ⟨_, hy⟩
          obtain ⟨rfl, rfl⟩ := hy rfl
          cases ho : orderedB M
          · repeat (first
              | ((first | apply Ops.op | apply Ops.op0 | apply Drs.bar | apply Drs.pure); case e => (intro k; simp (disch := omega) only [evs, Nat.reduceEqDiff, Nat.reduceLT, reduceIte, cond_true, cond_false, Nat.reduceAdd, hrow.rd1, hq, ho]; rfl))
              | ((first | apply Ops.g1 | apply Drs.g1); case e => (simp (disch := omega) only [evs, Nat.reduceEqDiff, Nat.reduceLT, reduceIte, hrow.rd1, hq, ho]))
              | ((first | apply Ops.g0t | apply Ops.g0f | apply Drs.g0t | apply Drs.g0f); case e => (simp (disch := omega) only [evs, Nat.reduceEqDiff, Nat.reduceLT, reduceIte, hrow.rd1, hq, ho]))
              | ((first | apply Ops.g0u | apply Drs.g0u); case e => (simp (disch := omega) only [evs, Nat.reduceEqDiff, Nat.reduceLT, reduceIte, hrow.rd1, hq, ho]))
              | apply Ok.seq
              | apply Ok.block
              | (apply Ok.ops (S := Sx))
              | (apply Ok.condT; case e => (simp (disch := omega) only [evs, Nat.reduceEqDiff, Nat.reduceLT, reduceIte, hrow.rd1, hq, ho]))
              | (apply Ok.condF; case e => (simp (disch := omega) only [evs, Nat.reduceEqDiff, Nat.reduceLT, reduceIte, hrow.rd1, hq, ho]))
              | ((first | apply Ops.nil | apply Drs.nil | apply Ok.skip | apply Ok.exit | apply Ok.ret); try simp only [Then_n, Then_e, Then_r, Out_n, Out_e, Out_r, Nat.reduceEqDiff, reduceIte])
              | (apply Ok.drs (S := Sx) hmix)
              )
            refine ⟨_, fun k => res_1 _ _ _ k, ?_⟩
            simp (disch := omega) only [evs, Nat.reduceEqDiff, Nat.reduceLT, reduceIte, cond_true, cond_false, List.map_cons, List.map_nil, Nat.reduceAdd, one_1]
            exact ⟨by simp [chkN, hq, ho], st⟩
          · repeat (first
              | ((first | apply Ops.op | apply Ops.op0 | apply Drs.bar | apply Drs.pure); case e => (intro k; simp (disch := omega) only [evs, Nat.reduceEqDiff, Nat.reduceLT, reduceIte, cond_true, cond_false, Nat.reduceAdd, hrow.rd1, hq, ho]; rfl))
              | ((first | apply Ops.g1 | apply Drs.g1); case e => (simp (disch := omega) only [evs, Nat.reduceEqDiff, Nat.reduceLT, reduceIte, hrow.rd1, hq, ho]))
              | ((first | apply Ops.g0t | apply Ops.g0f | apply Drs.g0t | apply Drs.g0f); case e => (simp (disch := omega) only [evs, Nat.reduceEqDiff, Nat.reduceLT, reduceIte, hrow.rd1, hq, ho]))
              | ((first | apply Ops.g0u | apply Drs.g0u); case e => (simp (disch := omega) only [evs, Nat.reduceEqDiff, Nat.reduceLT, reduceIte, hrow.rd1, hq, ho]))
              | apply Ok.seq
              | apply Ok.block
              | (apply Ok.ops (S := Sx))
              | (apply Ok.condT; case e => (simp (disch := omega) only [evs, Nat.reduceEqDiff, Nat.reduceLT, reduceIte, hrow.rd1, hq, ho]))
              | (apply Ok.condF; case e => (simp (disch := omega) only [evs, Nat.reduceEqDiff, Nat.reduceLT, reduceIte, hrow.rd1, hq, ho]))
              | ((first | apply Ops.nil | apply Drs.nil | apply Ok.skip | apply Ok.exit | apply Ok.ret); try simp only [Then_n, Then_e, Then_r, Out_n, Out_e, Out_r, Nat.reduceEqDiff, reduceIte])
              | (apply Ok.drs (S := Sx) hmix)
              )
            refine ⟨_, fun k => res_1 _ _ _ k, ?_⟩
            simp (disch := omega) only [evs, Nat.reduceEqDiff, Nat.reduceLT, reduceIte, cond_true, cond_false, List.map_cons, List.map_nil, Nat.reduceAdd, one_1]
            exact ⟨by simp [chkN, hq, ho], st⟩

def lvls (M : Mt) : Nat := if chkN M = 0 then M.length else 0
theorem levels_ok {h : H} {v : V} {M : Mt} (hM : Mx h v M) (hs : M.length ≤ 1000000) : FnOk Try.prog 17 [.a [v]] h fun y h' => y = .i .i64 (lvls M : Nat) ∧ Stay nowhere h h' := by
  refine fn_run c17 (by intro hb; cases hb) (by simp) (by simp) ?_
  simp only [slotsF, Nat.reduceAdd]
  unfold b17
  obtain ⟨Sx, hSx⟩ : ∃ S : Ev.Spec, S = fun f _ hh y h' => y = .i .i64 (chkN M : Nat) ∧ Stay nowhere hh h' := ⟨_, rfl⟩
  repeat (first
    | ((first | apply Ops.op | apply Ops.op0 | apply Drs.bar | apply Drs.pure); case e => (intro k; simp (disch := omega) only [evs, Nat.reduceEqDiff, Nat.reduceLT, reduceIte, cond_true, cond_false, Nat.reduceAdd]; rfl))
    | ((first | apply Ops.g1 | apply Drs.g1); case e => (simp (disch := omega) only [evs, Nat.reduceEqDiff, Nat.reduceLT, reduceIte]))
    | ((first | apply Ops.g0t | apply Ops.g0f | apply Drs.g0t | apply Drs.g0f); case e => (simp (disch := omega) only [evs, Nat.reduceEqDiff, Nat.reduceLT, reduceIte]))
    | ((first | apply Ops.g0u | apply Drs.g0u); case e => (simp (disch := omega) only [evs, Nat.reduceEqDiff, Nat.reduceLT, reduceIte]))
    | apply Ok.seq
    | apply Ok.block
    | (apply Ok.ops (S := Sp))
    | (apply Ok.condT; case e => (simp (disch := omega) only [evs, Nat.reduceEqDiff, Nat.reduceLT, reduceIte]))
    | (apply Ok.condF; case e => (simp (disch := omega) only [evs, Nat.reduceEqDiff, Nat.reduceLT, reduceIte]))
    | ((first | apply Ops.nil | apply Drs.nil | apply Ok.skip | apply Ok.exit | apply Ok.ret); try simp only [Then_n, Then_e, Then_r, Out_n, Out_e, Out_r, Nat.reduceEqDiff, reduceIte])
    | (apply Ok.drs (S := Sp) hmix)
    )
  apply Ops.box1
  case e => (simp (disch := omega) only [evs, Nat.reduceEqDiff, Nat.reduceLT, reduceIte, cond_true, cond_false, List.map_cons, List.map_nil, Nat.reduceAdd]; rfl)
  case k =>
    intro h1 id st hlt hge hrow
    have hM1 := hM.grow st
    repeat (first
      | ((first | apply Ops.op | apply Ops.op0 | apply Drs.bar | apply Drs.pure); case e => (intro k; simp (disch := omega) only [evs, Nat.reduceEqDiff, Nat.reduceLT, reduceIte, cond_true, cond_false, Nat.reduceAdd, hrow.rd1, hrow.rdA]; rfl))
      | ((first | apply Ops.g1 | apply Drs.g1); case e => (simp (disch := omega) only [evs, Nat.reduceEqDiff, Nat.reduceLT, reduceIte, hrow.rd1, hrow.rdA]))
      | ((first | apply Ops.g0t | apply Ops.g0f | apply Drs.g0t | apply Drs.g0f); case e => (simp (disch := omega) only [evs, Nat.reduceEqDiff, Nat.reduceLT, reduceIte, hrow.rd1, hrow.rdA]))
      | ((first | apply Ops.g0u | apply Drs.g0u); case e => (simp (disch := omega) only [evs, Nat.reduceEqDiff, Nat.reduceLT, reduceIte, hrow.rd1, hrow.rdA]))
      | apply Ok.seq
      | apply Ok.block
      | (apply Ok.ops (S := Sx))
      | (apply Ok.condT; case e => (simp (disch := omega) only [evs, Nat.reduceEqDiff, Nat.reduceLT, reduceIte, hrow.rd1, hrow.rdA]))
      | (apply Ok.condF; case e => (simp (disch := omega) only [evs, Nat.reduceEqDiff, Nat.reduceLT, reduceIte, hrow.rd1, hrow.rdA]))
      | ((first | apply Ops.nil | apply Drs.nil | apply Ok.skip | apply Ok.exit | apply Ok.ret); try simp only [Then_n, Then_e, Then_r, Out_n, Out_e, Out_r, Nat.reduceEqDiff, reduceIte])
      | (apply Ok.drs (S := Sx) hmix)
      )
    apply Ops.call
    case e => (simp (disch := omega) only [evs, Nat.reduceEqDiff, Nat.reduceLT, reduceIte, cond_true, cond_false, List.map_cons, List.map_nil, Nat.reduceAdd]; rfl)
    case hf => rw [hSx]; exact check_ok hM1 hs
    case k =>
      rw [hSx]
      rintro y h2 ⟨rfl, st2⟩
      have hrow2 := hrow.grow st2 hlt
      have hM2 := hM1.grow st2
      by_cases hc : chkN M = 0
      · have d : decide (((chkN M : Nat) : Int) = 0) = true := decide_eq_true (by omega)
        repeat (first
          | ((first | apply Ops.op | apply Ops.op0 | apply Drs.bar | apply Drs.pure); case e => (intro k; simp (disch := omega) only [evs, Nat.reduceEqDiff, Nat.reduceLT, reduceIte, cond_true, cond_false, Nat.reduceAdd, hrow2.rd1, d, hM2.len]; rfl))
          | ((first | apply Ops.g1 | apply Drs.g1); case e => (simp (disch := omega) only [evs, Nat.reduceEqDiff, Nat.reduceLT, reduceIte, hrow2.rd1, d, hM2.len]))
          | ((first | apply Ops.g0t | apply Ops.g0f | apply Drs.g0t | apply Drs.g0f); case e => (simp (disch := omega) only [evs, Nat.reduceEqDiff, Nat.reduceLT, reduceIte, hrow2.rd1, d, hM2.len]))
          | ((first | apply Ops.g0u | apply Drs.g0u); case e => (simp (disch := omega) only [evs, Nat.reduceEqDiff, Nat.reduceLT, reduceIte, hrow2.rd1, d, hM2.len]))
          | apply Ok.seq
          | apply Ok.block
          | (apply Ok.ops (S := Sp))
          | (apply Ok.condT; case e => (simp (disch := omega) only [evs, Nat.reduceEqDiff, Nat.reduceLT, reduceIte, hrow2.rd1, d, hM2.len]))
          | (apply Ok.condF; case e => (simp (disch := omega) only [evs, Nat.reduceEqDiff, Nat.reduceLT, reduceIte, hrow2.rd1, d, hM2.len]))
          | ((first | apply Ops.nil | apply Drs.nil | apply Ok.skip | apply Ok.exit | apply Ok.ret); try simp only [Then_n, Then_e, Then_r, Out_n, Out_e, Out_r, Nat.reduceEqDiff, reduceIte])
          | (apply Ok.drs (S := Sp) hmix)
          )
        refine ⟨_, fun k => res_1 _ _ _ k, ?_⟩
        simp (disch := omega) only [evs, Nat.reduceEqDiff, Nat.reduceLT, reduceIte, cond_true, cond_false, List.map_cons, List.map_nil, Nat.reduceAdd, one_1]
        exact ⟨by simp [lvls, hc], st.trans st2⟩
      · have d : decide (((chkN M : Nat) : Int) = 0) = false := decide_eq_false (by omega)
        repeat (first
          | ((first | apply Ops.op | apply Ops.op0 | apply Drs.bar | apply Drs.pure); case e => (intro k; simp (disch := omega) only [evs, Nat.reduceEqDiff, Nat.reduceLT, reduceIte, cond_true, cond_false, Nat.reduceAdd, hrow2.rd1, d, hM2.len]; rfl))
          | ((first | apply Ops.g1 | apply Drs.g1); case e => (simp (disch := omega) only [evs, Nat.reduceEqDiff, Nat.reduceLT, reduceIte, hrow2.rd1, d, hM2.len]))
          | ((first | apply Ops.g0t | apply Ops.g0f | apply Drs.g0t | apply Drs.g0f); case e => (simp (disch := omega) only [evs, Nat.reduceEqDiff, Nat.reduceLT, reduceIte, hrow2.rd1, d, hM2.len]))
          | ((first | apply Ops.g0u | apply Drs.g0u); case e => (simp (disch := omega) only [evs, Nat.reduceEqDiff, Nat.reduceLT, reduceIte, hrow2.rd1, d, hM2.len]))
          | apply Ok.seq
          | apply Ok.block
          | (apply Ok.ops (S := Sp))
          | (apply Ok.condT; case e => (simp (disch := omega) only [evs, Nat.reduceEqDiff, Nat.reduceLT, reduceIte, hrow2.rd1, d, hM2.len]))
          | (apply Ok.condF; case e => (simp (disch := omega) only [evs, Nat.reduceEqDiff, Nat.reduceLT, reduceIte, hrow2.rd1, d, hM2.len]))
          | ((first | apply Ops.nil | apply Drs.nil | apply Ok.skip | apply Ok.exit | apply Ok.ret); try simp only [Then_n, Then_e, Then_r, Out_n, Out_e, Out_r, Nat.reduceEqDiff, reduceIte])
          | (apply Ok.drs (S := Sp) hmix)
          )
        refine ⟨_, fun k => res_1 _ _ _ k, ?_⟩
        simp (disch := omega) only [evs, Nat.reduceEqDiff, Nat.reduceLT, reduceIte, cond_true, cond_false, List.map_cons, List.map_nil, Nat.reduceAdd, one_1]
        exact ⟨by simp [lvls, hc], st.trans st2⟩

def isLv (M : Mt) (a : Int) : Bool := decide (0 ≤ a ∧ a < lvls M)
theorem isLevel_ok {h : H} {v : V} {M : Mt} (hM : Mx h v M) (hs : M.length ≤ 1000000) (a : Int) : FnOk Try.prog 54 [.a [v], .i .i64 a] h fun y h' => y = .b (isLv M a) ∧ Stay nowhere h h' := by
  refine fn_run c54 (by intro hb; cases hb) (by simp) (by simp) ?_
  simp only [slotsF, Nat.reduceAdd]
  unfold b54
  obtain ⟨Sx, hSx⟩ : ∃ S : Ev.Spec, S = fun f _ hh y h' => y = .i .i64 (lvls M : Nat) ∧ Stay nowhere hh h' := ⟨_, rfl⟩
  repeat (first
    | ((first | apply Ops.op | apply Ops.op0 | apply Drs.bar | apply Drs.pure); case e => (intro k; simp (disch := omega) only [evs, Nat.reduceEqDiff, Nat.reduceLT, reduceIte, cond_true, cond_false, Nat.reduceAdd]; rfl))
    | ((first | apply Ops.g1 | apply Drs.g1); case e => (simp (disch := omega) only [evs, Nat.reduceEqDiff, Nat.reduceLT, reduceIte]))
    | ((first | apply Ops.g0t | apply Ops.g0f | apply Drs.g0t | apply Drs.g0f); case e => (simp (disch := omega) only [evs, Nat.reduceEqDiff, Nat.reduceLT, reduceIte]))
    | ((first | apply Ops.g0u | apply Drs.g0u); case e => (simp (disch := omega) only [evs, Nat.reduceEqDiff, Nat.reduceLT, reduceIte]))
    | apply Ok.seq
    | apply Ok.block
    | (apply Ok.ops (S := Sp))
    | (apply Ok.condT; case e => (simp (disch := omega) only [evs, Nat.reduceEqDiff, Nat.reduceLT, reduceIte]))
    | (apply Ok.condF; case e => (simp (disch := omega) only [evs, Nat.reduceEqDiff, Nat.reduceLT, reduceIte]))
    | ((first | apply Ops.nil | apply Drs.nil | apply Ok.skip | apply Ok.exit | apply Ok.ret); try simp only [Then_n, Then_e, Then_r, Out_n, Out_e, Out_r, Nat.reduceEqDiff, reduceIte])
    | (apply Ok.drs (S := Sp) hmix)
    )
  apply Ops.box1
  case e => (simp (disch := omega) only [evs, Nat.reduceEqDiff, Nat.reduceLT, reduceIte, cond_true, cond_false, List.map_cons, List.map_nil, Nat.reduceAdd]; rfl)
  case k =>
    intro h1 id st hlt hge hrow
    have hM1 := hM.grow st
    by_cases h0 : 0 ≤ a
    · have d : decide ((0 : Int) ≤ a) = true := decide_eq_true h0
      repeat (first
        | ((first | apply Ops.op | apply Ops.op0 | apply Drs.bar | apply Drs.pure); case e => (intro k; simp (disch := omega) only [evs, Nat.reduceEqDiff, Nat.reduceLT, reduceIte, cond_true, cond_false, Nat.reduceAdd, hrow.rd1, hrow.rdA, d]; rfl))
        | ((first | apply Ops.g1 | apply Drs.g1); case e => (simp (disch := omega) only [evs, Nat.reduceEqDiff, Nat.reduceLT, reduceIte, hrow.rd1, hrow.rdA, d]))
        | ((first | apply Ops.g0t | apply Ops.g0f | apply Drs.g0t | apply Drs.g0f); case e => (simp (disch := omega) only [evs, Nat.reduceEqDiff, Nat.reduceLT, reduceIte, hrow.rd1, hrow.rdA, d]))
        | ((first | apply Ops.g0u | apply Drs.g0u); case e => (simp (disch := omega) only [evs, Nat.reduceEqDiff, Nat.reduceLT, reduceIte, hrow.rd1, hrow.rdA, d]))
        | apply Ok.seq
        | apply Ok.block
        | (apply Ok.ops (S := Sx))
        | (apply Ok.condT; case e => (simp (disch := omega) only [evs, Nat.reduceEqDiff, Nat.reduceLT, reduceIte, hrow.rd1, hrow.rdA, d]))
        | (apply Ok.condF; case e => (simp (disch := omega) only [evs, Nat.reduceEqDiff, Nat.reduceLT, reduceIte, hrow.rd1, hrow.rdA, d]))
        | ((first | apply Ops.nil | apply Drs.nil | apply Ok.skip | apply Ok.exit | apply Ok.ret); try simp only [Then_n, Then_e, Then_r, Out_n, Out_e, Out_r, Nat.reduceEqDiff, reduceIte])
        | (apply Ok.drs (S := Sx) hmix)
        )
      apply Ops.call
      case e => (simp (disch := omega) only [evs, Nat.reduceEqDiff, Nat.reduceLT, reduceIte, cond_true, cond_false, List.map_cons, List.map_nil, Nat.reduceAdd]; rfl)
      case hf => rw [hSx]; exact levels_ok hM1 hs
      case k =>
        rw [hSx]
        rintro y h2 ⟨rfl, st2⟩
        repeat (first
          | ((first | apply Ops.op | apply Ops.op0 | apply Drs.bar | apply Drs.pure); case e => (intro k; simp (disch := omega) only [evs, Nat.reduceEqDiff, Nat.reduceLT, reduceIte, cond_true, cond_false, Nat.reduceAdd, d]; rfl))
          | ((first | apply Ops.g1 | apply Drs.g1); case e => (simp (disch := omega) only [evs, Nat.reduceEqDiff, Nat.reduceLT, reduceIte, d]))
          | ((first | apply Ops.g0t | apply Ops.g0f | apply Drs.g0t | apply Drs.g0f); case e => (simp (disch := omega) only [evs, Nat.reduceEqDiff, Nat.reduceLT, reduceIte, d]))
          | ((first | apply Ops.g0u | apply Drs.g0u); case e => (simp (disch := omega) only [evs, Nat.reduceEqDiff, Nat.reduceLT, reduceIte, d]))
          | apply Ok.seq
          | apply Ok.block
          | (apply Ok.ops (S := Sp))
          | (apply Ok.condT; case e => (simp (disch := omega) only [evs, Nat.reduceEqDiff, Nat.reduceLT, reduceIte, d]))
          | (apply Ok.condF; case e => (simp (disch := omega) only [evs, Nat.reduceEqDiff, Nat.reduceLT, reduceIte, d]))
          | ((first | apply Ops.nil | apply Drs.nil | apply Ok.skip | apply Ok.exit | apply Ok.ret); try simp only [Then_n, Then_e, Then_r, Out_n, Out_e, Out_r, Nat.reduceEqDiff, reduceIte])
          | (apply Ok.drs (S := Sp) hmix)
          )
        refine ⟨_, fun k => res_1 _ _ _ k, ?_⟩
        simp (disch := omega) only [evs, Nat.reduceEqDiff, Nat.reduceLT, reduceIte, cond_true, cond_false, List.map_cons, List.map_nil, Nat.reduceAdd, one_1]
        exact ⟨by simp [isLv, h0], st.trans st2⟩
    · have d : decide ((0 : Int) ≤ a) = false := decide_eq_false h0
      repeat (first
        | ((first | apply Ops.op | apply Ops.op0 | apply Drs.bar | apply Drs.pure); case e => (intro k; simp (disch := omega) only [evs, Nat.reduceEqDiff, Nat.reduceLT, reduceIte, cond_true, cond_false, Nat.reduceAdd, hrow.rd1, hrow.rdA, d]; rfl))
        | ((first | apply Ops.g1 | apply Drs.g1); case e => (simp (disch := omega) only [evs, Nat.reduceEqDiff, Nat.reduceLT, reduceIte, hrow.rd1, hrow.rdA, d]))
        | ((first | apply Ops.g0t | apply Ops.g0f | apply Drs.g0t | apply Drs.g0f); case e => (simp (disch := omega) only [evs, Nat.reduceEqDiff, Nat.reduceLT, reduceIte, hrow.rd1, hrow.rdA, d]))
        | ((first | apply Ops.g0u | apply Drs.g0u); case e => (simp (disch := omega) only [evs, Nat.reduceEqDiff, Nat.reduceLT, reduceIte, hrow.rd1, hrow.rdA, d]))
        | apply Ok.seq
        | apply Ok.block
        | (apply Ok.ops (S := Sx))
        | (apply Ok.condT; case e => (simp (disch := omega) only [evs, Nat.reduceEqDiff, Nat.reduceLT, reduceIte, hrow.rd1, hrow.rdA, d]))
        | (apply Ok.condF; case e => (simp (disch := omega) only [evs, Nat.reduceEqDiff, Nat.reduceLT, reduceIte, hrow.rd1, hrow.rdA, d]))
        | ((first | apply Ops.nil | apply Drs.nil | apply Ok.skip | apply Ok.exit | apply Ok.ret); try simp only [Then_n, Then_e, Then_r, Out_n, Out_e, Out_r, Nat.reduceEqDiff, reduceIte])
        | (apply Ok.drs (S := Sx) hmix)
        )
      refine ⟨_, fun k => res_1 _ _ _ k, ?_⟩
      simp (disch := omega) only [evs, Nat.reduceEqDiff, Nat.reduceLT, reduceIte, cond_true, cond_false, List.map_cons, List.map_nil, Nat.reduceAdd, one_1]
      exact ⟨by simp [isLv, h0], st⟩
end Go.Proofs.Ytpnflehemjbemaa
