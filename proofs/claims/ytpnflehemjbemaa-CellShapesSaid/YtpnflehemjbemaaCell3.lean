/- TakeNum, TakeText, Less of package cell, by what they compute. No condition. -/
import Derived.Test.YtpnflehemjbemaaCell1
set_option maxRecDepth 100000
set_option maxHeartbeats 8000000
set_option linter.all false
namespace Go.Proofs.Ytpnflehemjbemaa
open Go Go.Ev

theorem takeNum_ok {h : H} {l : List UInt8} (hl : l.length ≤ 1000000) : FnOk Try.prog 44 [sv l] h fun y h' => y = tri (takeN l) ∧ h' = h := by
  refine fn_run c44 (by intro hb; cases hb) (by simp) (by simp) ?_
  simp only [slotsF, Nat.reduceAdd]
  unfold b44
  obtain ⟨S1, hS1⟩ : ∃ S : Ev.Spec, S = fun f vs hh y h' => ∀ p, vs = [sv p] → y = numR p ∧ h' = hh := ⟨_, rfl⟩
  cases l with
  | nil =>
    have d : decide (([] : List UInt8) = []) = true := rfl
    repeat (first
      | ((first | apply Ops.op | apply Ops.op0 | apply Drs.bar | apply Drs.pure); case e => (intro k; simp (disch := omega) only [evs, evt, Int.reduceToNat, Int.reduceEq, Int.reduceLT, Int.reduceLE, decide_true, decide_false, Nat.reduceEqDiff, Nat.reduceLT, reduceIte, cond_true, cond_false, List.map_cons, List.map_nil, Nat.reduceAdd, d]; rfl))
      | ((first | apply Ops.g1 | apply Drs.g1); case e => (simp (disch := omega) only [evs, evt, Int.reduceToNat, Int.reduceEq, Int.reduceLT, Int.reduceLE, decide_true, decide_false, Nat.reduceEqDiff, Nat.reduceLT, reduceIte, cond_true, cond_false, List.map_cons, List.map_nil, Nat.reduceAdd, d]))
      | ((first | apply Ops.g0t | apply Ops.g0f | apply Drs.g0t | apply Drs.g0f); case e => (simp (disch := omega) only [evs, evt, Int.reduceToNat, Int.reduceEq, Int.reduceLT, Int.reduceLE, decide_true, decide_false, Nat.reduceEqDiff, Nat.reduceLT, reduceIte, cond_true, cond_false, List.map_cons, List.map_nil, Nat.reduceAdd, d]))
      | ((first | apply Ops.g0u | apply Drs.g0u); case e => (simp (disch := omega) only [evs, evt, Int.reduceToNat, Int.reduceEq, Int.reduceLT, Int.reduceLE, decide_true, decide_false, Nat.reduceEqDiff, Nat.reduceLT, reduceIte, cond_true, cond_false, List.map_cons, List.map_nil, Nat.reduceAdd, d]))
      | apply Ok.seq
      | apply Ok.block
      | (apply Ok.ops (S := Sp))
      | (apply Ok.condT; case e => (simp (disch := omega) only [evs, evt, Int.reduceToNat, Int.reduceEq, Int.reduceLT, Int.reduceLE, decide_true, decide_false, Nat.reduceEqDiff, Nat.reduceLT, reduceIte, cond_true, cond_false, List.map_cons, List.map_nil, Nat.reduceAdd, d]))
      | (apply Ok.condF; case e => (simp (disch := omega) only [evs, evt, Int.reduceToNat, Int.reduceEq, Int.reduceLT, Int.reduceLE, decide_true, decide_false, Nat.reduceEqDiff, Nat.reduceLT, reduceIte, cond_true, cond_false, List.map_cons, List.map_nil, Nat.reduceAdd, d]))
      | ((first | apply Ops.nil | apply Drs.nil | apply Ok.skip | apply Ok.exit | apply Ok.ret); try simp only [Then_n, Then_e, Then_r, Out_n, Out_e, Out_r, Nat.reduceEqDiff, reduceIte])
      | (apply Ok.drs (S := Sp) hmix)
      )
    refine ⟨_, fun k => res_3 _ _ _ _ _ k, ?_⟩
    simp (disch := omega) only [evs, evt, Int.reduceToNat, Int.reduceEq, Int.reduceLT, Int.reduceLE, decide_true, decide_false, Nat.reduceEqDiff, Nat.reduceLT, reduceIte, cond_true, cond_false, List.map_cons, List.map_nil, Nat.reduceAdd, one_3]
    exact ⟨rfl, by trivial⟩
  | cons w r =>
    have hlen : (w :: r).length = r.length + 1 := rfl
    have hw := w.toNat_lt
    have hgd : (w :: r).getD 0 0 = w := rfl
    have d0 : decide (w :: r = []) = false := rfl
    cases d1 : decide ((8 : Int) < (w.toNat : Int)) with
    | true =>
      have e1 := of_decide_eq_true d1
      repeat (first
        | ((first | apply Ops.op | apply Ops.op0 | apply Drs.bar | apply Drs.pure); case e => (intro k; simp (disch := omega) only [evs, evt, Int.reduceToNat, Int.reduceEq, Int.reduceLT, Int.reduceLE, decide_true, decide_false, Nat.reduceEqDiff, Nat.reduceLT, reduceIte, cond_true, cond_false, List.map_cons, List.map_nil, Nat.reduceAdd, d0, d1, hgd, sixV_sv]; rfl))
        | ((first | apply Ops.g1 | apply Drs.g1); case e => (simp (disch := omega) only [evs, evt, Int.reduceToNat, Int.reduceEq, Int.reduceLT, Int.reduceLE, decide_true, decide_false, Nat.reduceEqDiff, Nat.reduceLT, reduceIte, cond_true, cond_false, List.map_cons, List.map_nil, Nat.reduceAdd, d0, d1, hgd, sixV_sv]))
        | ((first | apply Ops.g0t | apply Ops.g0f | apply Drs.g0t | apply Drs.g0f); case e => (simp (disch := omega) only [evs, evt, Int.reduceToNat, Int.reduceEq, Int.reduceLT, Int.reduceLE, decide_true, decide_false, Nat.reduceEqDiff, Nat.reduceLT, reduceIte, cond_true, cond_false, List.map_cons, List.map_nil, Nat.reduceAdd, d0, d1, hgd, sixV_sv]))
        | ((first | apply Ops.g0u | apply Drs.g0u); case e => (simp (disch := omega) only [evs, evt, Int.reduceToNat, Int.reduceEq, Int.reduceLT, Int.reduceLE, decide_true, decide_false, Nat.reduceEqDiff, Nat.reduceLT, reduceIte, cond_true, cond_false, List.map_cons, List.map_nil, Nat.reduceAdd, d0, d1, hgd, sixV_sv]))
        | apply Ok.seq
        | apply Ok.block
        | (apply Ok.ops (S := Sp))
        | (apply Ok.condT; case e => (simp (disch := omega) only [evs, evt, Int.reduceToNat, Int.reduceEq, Int.reduceLT, Int.reduceLE, decide_true, decide_false, Nat.reduceEqDiff, Nat.reduceLT, reduceIte, cond_true, cond_false, List.map_cons, List.map_nil, Nat.reduceAdd, d0, d1, hgd, sixV_sv]))
        | (apply Ok.condF; case e => (simp (disch := omega) only [evs, evt, Int.reduceToNat, Int.reduceEq, Int.reduceLT, Int.reduceLE, decide_true, decide_false, Nat.reduceEqDiff, Nat.reduceLT, reduceIte, cond_true, cond_false, List.map_cons, List.map_nil, Nat.reduceAdd, d0, d1, hgd, sixV_sv]))
        | ((first | apply Ops.nil | apply Drs.nil | apply Ok.skip | apply Ok.exit | apply Ok.ret); try simp only [Then_n, Then_e, Then_r, Out_n, Out_e, Out_r, Nat.reduceEqDiff, reduceIte])
        | (apply Ok.drs (S := Sp) hmix)
        )
      refine ⟨_, fun k => res_3 _ _ _ _ _ k, ?_⟩
      simp (disch := omega) only [evs, evt, Int.reduceToNat, Int.reduceEq, Int.reduceLT, Int.reduceLE, decide_true, decide_false, Nat.reduceEqDiff, Nat.reduceLT, reduceIte, cond_true, cond_false, List.map_cons, List.map_nil, Nat.reduceAdd, one_3]
      exact ⟨by rw [takeN_big (by omega)]; rfl, by trivial⟩
    | false =>
      have e1 := of_decide_eq_false d1
      cases d2 : decide (((w :: r).length : Int) < 1 + (w.toNat : Int)) with
      | true =>
        have e2 := of_decide_eq_true d2
        repeat (first
          | ((first | apply Ops.op | apply Ops.op0 | apply Drs.bar | apply Drs.pure); case e => (intro k; simp (disch := omega) only [evs, evt, Int.reduceToNat, Int.reduceEq, Int.reduceLT, Int.reduceLE, decide_true, decide_false, Nat.reduceEqDiff, Nat.reduceLT, reduceIte, cond_true, cond_false, List.map_cons, List.map_nil, Nat.reduceAdd, d0, d1, d2, hgd, sixV_sv]; rfl))
          | ((first | apply Ops.g1 | apply Drs.g1); case e => (simp (disch := omega) only [evs, evt, Int.reduceToNat, Int.reduceEq, Int.reduceLT, Int.reduceLE, decide_true, decide_false, Nat.reduceEqDiff, Nat.reduceLT, reduceIte, cond_true, cond_false, List.map_cons, List.map_nil, Nat.reduceAdd, d0, d1, d2, hgd, sixV_sv]))
          | ((first | apply Ops.g0t | apply Ops.g0f | apply Drs.g0t | apply Drs.g0f); case e => (simp (disch := omega) only [evs, evt, Int.reduceToNat, Int.reduceEq, Int.reduceLT, Int.reduceLE, decide_true, decide_false, Nat.reduceEqDiff, Nat.reduceLT, reduceIte, cond_true, cond_false, List.map_cons, List.map_nil, Nat.reduceAdd, d0, d1, d2, hgd, sixV_sv]))
          | ((first | apply Ops.g0u | apply Drs.g0u); case e => (simp (disch := omega) only [evs, evt, Int.reduceToNat, Int.reduceEq, Int.reduceLT, Int.reduceLE, decide_true, decide_false, Nat.reduceEqDiff, Nat.reduceLT, reduceIte, cond_true, cond_false, List.map_cons, List.map_nil, Nat.reduceAdd, d0, d1, d2, hgd, sixV_sv]))
          | apply Ok.seq
          | apply Ok.block
          | (apply Ok.ops (S := Sp))
          | (apply Ok.condT; case e => (simp (disch := omega) only [evs, evt, Int.reduceToNat, Int.reduceEq, Int.reduceLT, Int.reduceLE, decide_true, decide_false, Nat.reduceEqDiff, Nat.reduceLT, reduceIte, cond_true, cond_false, List.map_cons, List.map_nil, Nat.reduceAdd, d0, d1, d2, hgd, sixV_sv]))
          | (apply Ok.condF; case e => (simp (disch := omega) only [evs, evt, Int.reduceToNat, Int.reduceEq, Int.reduceLT, Int.reduceLE, decide_true, decide_false, Nat.reduceEqDiff, Nat.reduceLT, reduceIte, cond_true, cond_false, List.map_cons, List.map_nil, Nat.reduceAdd, d0, d1, d2, hgd, sixV_sv]))
          | ((first | apply Ops.nil | apply Drs.nil | apply Ok.skip | apply Ok.exit | apply Ok.ret); try simp only [Then_n, Then_e, Then_r, Out_n, Out_e, Out_r, Nat.reduceEqDiff, reduceIte])
          | (apply Ok.drs (S := Sp) hmix)
          )
        refine ⟨_, fun k => res_3 _ _ _ _ _ k, ?_⟩
        simp (disch := omega) only [evs, evt, Int.reduceToNat, Int.reduceEq, Int.reduceLT, Int.reduceLE, decide_true, decide_false, Nat.reduceEqDiff, Nat.reduceLT, reduceIte, cond_true, cond_false, List.map_cons, List.map_nil, Nat.reduceAdd, one_3]
        exact ⟨by rw [takeN_short (by omega) (by omega)]; rfl, by trivial⟩
      | false =>
        have e2 := of_decide_eq_false d2
        have hsl : ((w :: r).take (1 + (w.toNat : Int)).toNat).drop 1 = r.take w.toNat := by
          rw [show (1 + (w.toNat : Int)).toNat = w.toNat + 1 by omega]; simp
        repeat (first
          | ((first | apply Ops.op | apply Ops.op0 | apply Drs.bar | apply Drs.pure); case e => (intro k; simp (disch := omega) only [evs, evt, Int.reduceToNat, Int.reduceEq, Int.reduceLT, Int.reduceLE, decide_true, decide_false, Nat.reduceEqDiff, Nat.reduceLT, reduceIte, cond_true, cond_false, List.map_cons, List.map_nil, Nat.reduceAdd, d0, d1, d2, hgd, sixV_sv, ssV_sv, hsl]; rfl))
          | ((first | apply Ops.g1 | apply Drs.g1); case e => (simp (disch := omega) only [evs, evt, Int.reduceToNat, Int.reduceEq, Int.reduceLT, Int.reduceLE, decide_true, decide_false, Nat.reduceEqDiff, Nat.reduceLT, reduceIte, cond_true, cond_false, List.map_cons, List.map_nil, Nat.reduceAdd, d0, d1, d2, hgd, sixV_sv, ssV_sv, hsl]))
          | ((first | apply Ops.g0t | apply Ops.g0f | apply Drs.g0t | apply Drs.g0f); case e => (simp (disch := omega) only [evs, evt, Int.reduceToNat, Int.reduceEq, Int.reduceLT, Int.reduceLE, decide_true, decide_false, Nat.reduceEqDiff, Nat.reduceLT, reduceIte, cond_true, cond_false, List.map_cons, List.map_nil, Nat.reduceAdd, d0, d1, d2, hgd, sixV_sv, ssV_sv, hsl]))
          | ((first | apply Ops.g0u | apply Drs.g0u); case e => (simp (disch := omega) only [evs, evt, Int.reduceToNat, Int.reduceEq, Int.reduceLT, Int.reduceLE, decide_true, decide_false, Nat.reduceEqDiff, Nat.reduceLT, reduceIte, cond_true, cond_false, List.map_cons, List.map_nil, Nat.reduceAdd, d0, d1, d2, hgd, sixV_sv, ssV_sv, hsl]))
          | apply Ok.seq
          | apply Ok.block
          | (apply Ok.ops (S := S1))
          | (apply Ok.condT; case e => (simp (disch := omega) only [evs, evt, Int.reduceToNat, Int.reduceEq, Int.reduceLT, Int.reduceLE, decide_true, decide_false, Nat.reduceEqDiff, Nat.reduceLT, reduceIte, cond_true, cond_false, List.map_cons, List.map_nil, Nat.reduceAdd, d0, d1, d2, hgd, sixV_sv, ssV_sv, hsl]))
          | (apply Ok.condF; case e => (simp (disch := omega) only [evs, evt, Int.reduceToNat, Int.reduceEq, Int.reduceLT, Int.reduceLE, decide_true, decide_false, Nat.reduceEqDiff, Nat.reduceLT, reduceIte, cond_true, cond_false, List.map_cons, List.map_nil, Nat.reduceAdd, d0, d1, d2, hgd, sixV_sv, ssV_sv, hsl]))
          | ((first | apply Ops.nil | apply Drs.nil | apply Ok.skip | apply Ok.exit | apply Ok.ret); try simp only [Then_n, Then_e, Then_r, Out_n, Out_e, Out_r, Nat.reduceEqDiff, reduceIte])
          | (apply Ok.drs (S := S1) hmix)
          )
        apply Ops.call
        case e => (simp (disch := omega) only [evs, evt, Int.reduceToNat, Int.reduceEq, Int.reduceLT, Int.reduceLE, decide_true, decide_false, Nat.reduceEqDiff, Nat.reduceLT, reduceIte, cond_true, cond_false, List.map_cons, List.map_nil, Nat.reduceAdd]; rfl)
        case hf => rw [hS1]; exact (number_ok (by rw [List.length_take]; omega)).mono fun y h' hk p' e => by have := sv_inj (List.cons.inj e).1; subst this; exact hk
        case k =>
        intro y h2 hy
        rw [hS1] at hy
        obtain ⟨rfl, rfl⟩ := hy _ rfl
        by_cases hb : badD (r.take w.toNat)
        · rw [numR_bad hb]
          repeat (first
            | ((first | apply Ops.op | apply Ops.op0 | apply Drs.bar | apply Drs.pure); case e => (intro k; simp (disch := omega) only [evs, evt, Int.reduceToNat, Int.reduceEq, Int.reduceLT, Int.reduceLE, decide_true, decide_false, Nat.reduceEqDiff, Nat.reduceLT, reduceIte, cond_true, cond_false, List.map_cons, List.map_nil, Nat.reduceAdd, d0, d1, d2]; rfl))
            | ((first | apply Ops.g1 | apply Drs.g1); case e => (simp (disch := omega) only [evs, evt, Int.reduceToNat, Int.reduceEq, Int.reduceLT, Int.reduceLE, decide_true, decide_false, Nat.reduceEqDiff, Nat.reduceLT, reduceIte, cond_true, cond_false, List.map_cons, List.map_nil, Nat.reduceAdd, d0, d1, d2]))
            | ((first | apply Ops.g0t | apply Ops.g0f | apply Drs.g0t | apply Drs.g0f); case e => (simp (disch := omega) only [evs, evt, Int.reduceToNat, Int.reduceEq, Int.reduceLT, Int.reduceLE, decide_true, decide_false, Nat.reduceEqDiff, Nat.reduceLT, reduceIte, cond_true, cond_false, List.map_cons, List.map_nil, Nat.reduceAdd, d0, d1, d2]))
            | ((first | apply Ops.g0u | apply Drs.g0u); case e => (simp (disch := omega) only [evs, evt, Int.reduceToNat, Int.reduceEq, Int.reduceLT, Int.reduceLE, decide_true, decide_false, Nat.reduceEqDiff, Nat.reduceLT, reduceIte, cond_true, cond_false, List.map_cons, List.map_nil, Nat.reduceAdd, d0, d1, d2]))
            | apply Ok.seq
            | apply Ok.block
            | (apply Ok.ops (S := Sp))
            | (apply Ok.condT; case e => (simp (disch := omega) only [evs, evt, Int.reduceToNat, Int.reduceEq, Int.reduceLT, Int.reduceLE, decide_true, decide_false, Nat.reduceEqDiff, Nat.reduceLT, reduceIte, cond_true, cond_false, List.map_cons, List.map_nil, Nat.reduceAdd, d0, d1, d2]))
            | (apply Ok.condF; case e => (simp (disch := omega) only [evs, evt, Int.reduceToNat, Int.reduceEq, Int.reduceLT, Int.reduceLE, decide_true, decide_false, Nat.reduceEqDiff, Nat.reduceLT, reduceIte, cond_true, cond_false, List.map_cons, List.map_nil, Nat.reduceAdd, d0, d1, d2]))
            | ((first | apply Ops.nil | apply Drs.nil | apply Ok.skip | apply Ok.exit | apply Ok.ret); try simp only [Then_n, Then_e, Then_r, Out_n, Out_e, Out_r, Nat.reduceEqDiff, reduceIte])
            | (apply Ok.drs (S := Sp) hmix)
            )
          refine ⟨_, fun k => res_3 _ _ _ _ _ k, ?_⟩
          simp (disch := omega) only [evs, evt, Int.reduceToNat, Int.reduceEq, Int.reduceLT, Int.reduceLE, decide_true, decide_false, Nat.reduceEqDiff, Nat.reduceLT, reduceIte, cond_true, cond_false, List.map_cons, List.map_nil, Nat.reduceAdd, one_3]
          exact ⟨by rw [takeN_bad (by omega) (by omega) hb]; rfl, by trivial⟩
        · rw [numR_ok hb]
          repeat (first
            | ((first | apply Ops.op | apply Ops.op0 | apply Drs.bar | apply Drs.pure); case e => (intro k; simp (disch := omega) only [evs, evt, Int.reduceToNat, Int.reduceEq, Int.reduceLT, Int.reduceLE, decide_true, decide_false, Nat.reduceEqDiff, Nat.reduceLT, reduceIte, cond_true, cond_false, List.map_cons, List.map_nil, Nat.reduceAdd, d0, d1, d2]; rfl))
            | ((first | apply Ops.g1 | apply Drs.g1); case e => (simp (disch := omega) only [evs, evt, Int.reduceToNat, Int.reduceEq, Int.reduceLT, Int.reduceLE, decide_true, decide_false, Nat.reduceEqDiff, Nat.reduceLT, reduceIte, cond_true, cond_false, List.map_cons, List.map_nil, Nat.reduceAdd, d0, d1, d2]))
            | ((first | apply Ops.g0t | apply Ops.g0f | apply Drs.g0t | apply Drs.g0f); case e => (simp (disch := omega) only [evs, evt, Int.reduceToNat, Int.reduceEq, Int.reduceLT, Int.reduceLE, decide_true, decide_false, Nat.reduceEqDiff, Nat.reduceLT, reduceIte, cond_true, cond_false, List.map_cons, List.map_nil, Nat.reduceAdd, d0, d1, d2]))
            | ((first | apply Ops.g0u | apply Drs.g0u); case e => (simp (disch := omega) only [evs, evt, Int.reduceToNat, Int.reduceEq, Int.reduceLT, Int.reduceLE, decide_true, decide_false, Nat.reduceEqDiff, Nat.reduceLT, reduceIte, cond_true, cond_false, List.map_cons, List.map_nil, Nat.reduceAdd, d0, d1, d2]))
            | apply Ok.seq
            | apply Ok.block
            | (apply Ok.ops (S := Sp))
            | (apply Ok.condT; case e => (simp (disch := omega) only [evs, evt, Int.reduceToNat, Int.reduceEq, Int.reduceLT, Int.reduceLE, decide_true, decide_false, Nat.reduceEqDiff, Nat.reduceLT, reduceIte, cond_true, cond_false, List.map_cons, List.map_nil, Nat.reduceAdd, d0, d1, d2]))
            | (apply Ok.condF; case e => (simp (disch := omega) only [evs, evt, Int.reduceToNat, Int.reduceEq, Int.reduceLT, Int.reduceLE, decide_true, decide_false, Nat.reduceEqDiff, Nat.reduceLT, reduceIte, cond_true, cond_false, List.map_cons, List.map_nil, Nat.reduceAdd, d0, d1, d2]))
            | ((first | apply Ops.nil | apply Drs.nil | apply Ok.skip | apply Ok.exit | apply Ok.ret); try simp only [Then_n, Then_e, Then_r, Out_n, Out_e, Out_r, Nat.reduceEqDiff, reduceIte])
            | (apply Ok.drs (S := Sp) hmix)
            )
          refine ⟨_, fun k => res_3 _ _ _ _ _ k, ?_⟩
          simp (disch := omega) only [evs, evt, Int.reduceToNat, Int.reduceEq, Int.reduceLT, Int.reduceLE, decide_true, decide_false, Nat.reduceEqDiff, Nat.reduceLT, reduceIte, cond_true, cond_false, List.map_cons, List.map_nil, Nat.reduceAdd, one_3]
          refine ⟨?_, by trivial⟩
          rw [takeN_ok (by omega) (by omega) hb, show (1 : Int) + (w.toNat : Int) = ((w.toNat + 1 : Nat) : Int) by omega]; rfl

theorem takeText_ok {h : H} {l : List UInt8} (hl : l.length ≤ 1000000) : FnOk Try.prog 46 [sv l] h fun y h' => y = triT (takeT l) ∧ h' = h := by
  refine fn_run c46 (by intro hb; cases hb) (by simp) (by simp) ?_
  simp only [slotsF, Nat.reduceAdd]
  unfold b46
  obtain ⟨S1, hS1⟩ : ∃ S : Ev.Spec, S = fun f vs hh y h' => ∀ p, vs = [sv p] → y = tri (takeN p) ∧ h' = hh := ⟨_, rfl⟩
  repeat (first
    | ((first | apply Ops.op | apply Ops.op0 | apply Drs.bar | apply Drs.pure); case e => (intro k; simp (disch := omega) only [evs, evt, Int.reduceToNat, Int.reduceEq, Int.reduceLT, Int.reduceLE, decide_true, decide_false, Nat.reduceEqDiff, Nat.reduceLT, reduceIte, cond_true, cond_false, List.map_cons, List.map_nil, Nat.reduceAdd]; rfl))
    | ((first | apply Ops.g1 | apply Drs.g1); case e => (simp (disch := omega) only [evs, evt, Int.reduceToNat, Int.reduceEq, Int.reduceLT, Int.reduceLE, decide_true, decide_false, Nat.reduceEqDiff, Nat.reduceLT, reduceIte, cond_true, cond_false, List.map_cons, List.map_nil, Nat.reduceAdd]))
    | ((first | apply Ops.g0t | apply Ops.g0f | apply Drs.g0t | apply Drs.g0f); case e => (simp (disch := omega) only [evs, evt, Int.reduceToNat, Int.reduceEq, Int.reduceLT, Int.reduceLE, decide_true, decide_false, Nat.reduceEqDiff, Nat.reduceLT, reduceIte, cond_true, cond_false, List.map_cons, List.map_nil, Nat.reduceAdd]))
    | ((first | apply Ops.g0u | apply Drs.g0u); case e => (simp (disch := omega) only [evs, evt, Int.reduceToNat, Int.reduceEq, Int.reduceLT, Int.reduceLE, decide_true, decide_false, Nat.reduceEqDiff, Nat.reduceLT, reduceIte, cond_true, cond_false, List.map_cons, List.map_nil, Nat.reduceAdd]))
    | apply Ok.seq
    | apply Ok.block
    | (apply Ok.ops (S := S1))
    | (apply Ok.condT; case e => (simp (disch := omega) only [evs, evt, Int.reduceToNat, Int.reduceEq, Int.reduceLT, Int.reduceLE, decide_true, decide_false, Nat.reduceEqDiff, Nat.reduceLT, reduceIte, cond_true, cond_false, List.map_cons, List.map_nil, Nat.reduceAdd]))
    | (apply Ok.condF; case e => (simp (disch := omega) only [evs, evt, Int.reduceToNat, Int.reduceEq, Int.reduceLT, Int.reduceLE, decide_true, decide_false, Nat.reduceEqDiff, Nat.reduceLT, reduceIte, cond_true, cond_false, List.map_cons, List.map_nil, Nat.reduceAdd]))
    | ((first | apply Ops.nil | apply Drs.nil | apply Ok.skip | apply Ok.exit | apply Ok.ret); try simp only [Then_n, Then_e, Then_r, Out_n, Out_e, Out_r, Nat.reduceEqDiff, reduceIte])
    | (apply Ok.drs (S := S1) hmix)
    )
  apply Ops.call
  case e => (simp (disch := omega) only [evs, evt, Int.reduceToNat, Int.reduceEq, Int.reduceLT, Int.reduceLE, decide_true, decide_false, Nat.reduceEqDiff, Nat.reduceLT, reduceIte, cond_true, cond_false, List.map_cons, List.map_nil, Nat.reduceAdd]; rfl)
  case hf => rw [hS1]; exact (takeNum_ok hl).mono fun y h' hk p' e => by have := sv_inj (List.cons.inj e).1; subst this; exact hk
  case k =>
  intro y h2 hy
  rw [hS1] at hy
  obtain ⟨rfl, rfl⟩ := hy _ rfl
  rcases takeN_range l with (hc | hc) | ⟨n, k, hc, h1, h2, h3, h4⟩
  · rw [hc]
    unfold tri
    repeat (first
      | ((first | apply Ops.op | apply Ops.op0 | apply Drs.bar | apply Drs.pure); case e => (intro k; simp (disch := omega) only [evs, evt, Int.reduceToNat, Int.reduceEq, Int.reduceLT, Int.reduceLE, decide_true, decide_false, Nat.reduceEqDiff, Nat.reduceLT, reduceIte, cond_true, cond_false, List.map_cons, List.map_nil, Nat.reduceAdd]; rfl))
      | ((first | apply Ops.g1 | apply Drs.g1); case e => (simp (disch := omega) only [evs, evt, Int.reduceToNat, Int.reduceEq, Int.reduceLT, Int.reduceLE, decide_true, decide_false, Nat.reduceEqDiff, Nat.reduceLT, reduceIte, cond_true, cond_false, List.map_cons, List.map_nil, Nat.reduceAdd]))
      | ((first | apply Ops.g0t | apply Ops.g0f | apply Drs.g0t | apply Drs.g0f); case e => (simp (disch := omega) only [evs, evt, Int.reduceToNat, Int.reduceEq, Int.reduceLT, Int.reduceLE, decide_true, decide_false, Nat.reduceEqDiff, Nat.reduceLT, reduceIte, cond_true, cond_false, List.map_cons, List.map_nil, Nat.reduceAdd]))
      | ((first | apply Ops.g0u | apply Drs.g0u); case e => (simp (disch := omega) only [evs, evt, Int.reduceToNat, Int.reduceEq, Int.reduceLT, Int.reduceLE, decide_true, decide_false, Nat.reduceEqDiff, Nat.reduceLT, reduceIte, cond_true, cond_false, List.map_cons, List.map_nil, Nat.reduceAdd]))
      | apply Ok.seq
      | apply Ok.block
      | (apply Ok.ops (S := Sp))
      | (apply Ok.condT; case e => (simp (disch := omega) only [evs, evt, Int.reduceToNat, Int.reduceEq, Int.reduceLT, Int.reduceLE, decide_true, decide_false, Nat.reduceEqDiff, Nat.reduceLT, reduceIte, cond_true, cond_false, List.map_cons, List.map_nil, Nat.reduceAdd]))
      | (apply Ok.condF; case e => (simp (disch := omega) only [evs, evt, Int.reduceToNat, Int.reduceEq, Int.reduceLT, Int.reduceLE, decide_true, decide_false, Nat.reduceEqDiff, Nat.reduceLT, reduceIte, cond_true, cond_false, List.map_cons, List.map_nil, Nat.reduceAdd]))
      | ((first | apply Ops.nil | apply Drs.nil | apply Ok.skip | apply Ok.exit | apply Ok.ret); try simp only [Then_n, Then_e, Then_r, Out_n, Out_e, Out_r, Nat.reduceEqDiff, reduceIte])
      | (apply Ok.drs (S := Sp) hmix)
      )
    refine ⟨_, fun k => res_3 _ _ _ _ _ k, ?_⟩
    simp (disch := omega) only [evs, evt, Int.reduceToNat, Int.reduceEq, Int.reduceLT, Int.reduceLE, decide_true, decide_false, Nat.reduceEqDiff, Nat.reduceLT, reduceIte, cond_true, cond_false, List.map_cons, List.map_nil, Nat.reduceAdd, one_3]
    exact ⟨by unfold takeT; rw [hc]; rfl, by trivial⟩
  · rw [hc]
    unfold tri
    repeat (first
      | ((first | apply Ops.op | apply Ops.op0 | apply Drs.bar | apply Drs.pure); case e => (intro k; simp (disch := omega) only [evs, evt, Int.reduceToNat, Int.reduceEq, Int.reduceLT, Int.reduceLE, decide_true, decide_false, Nat.reduceEqDiff, Nat.reduceLT, reduceIte, cond_true, cond_false, List.map_cons, List.map_nil, Nat.reduceAdd]; rfl))
      | ((first | apply Ops.g1 | apply Drs.g1); case e => (simp (disch := omega) only [evs, evt, Int.reduceToNat, Int.reduceEq, Int.reduceLT, Int.reduceLE, decide_true, decide_false, Nat.reduceEqDiff, Nat.reduceLT, reduceIte, cond_true, cond_false, List.map_cons, List.map_nil, Nat.reduceAdd]))
      | ((first | apply Ops.g0t | apply Ops.g0f | apply Drs.g0t | apply Drs.g0f); case e => (simp (disch := omega) only [evs, evt, Int.reduceToNat, Int.reduceEq, Int.reduceLT, Int.reduceLE, decide_true, decide_false, Nat.reduceEqDiff, Nat.reduceLT, reduceIte, cond_true, cond_false, List.map_cons, List.map_nil, Nat.reduceAdd]))
      | ((first | apply Ops.g0u | apply Drs.g0u); case e => (simp (disch := omega) only [evs, evt, Int.reduceToNat, Int.reduceEq, Int.reduceLT, Int.reduceLE, decide_true, decide_false, Nat.reduceEqDiff, Nat.reduceLT, reduceIte, cond_true, cond_false, List.map_cons, List.map_nil, Nat.reduceAdd]))
      | apply Ok.seq
      | apply Ok.block
      | (apply Ok.ops (S := Sp))
      | (apply Ok.condT; case e => (simp (disch := omega) only [evs, evt, Int.reduceToNat, Int.reduceEq, Int.reduceLT, Int.reduceLE, decide_true, decide_false, Nat.reduceEqDiff, Nat.reduceLT, reduceIte, cond_true, cond_false, List.map_cons, List.map_nil, Nat.reduceAdd]))
      | (apply Ok.condF; case e => (simp (disch := omega) only [evs, evt, Int.reduceToNat, Int.reduceEq, Int.reduceLT, Int.reduceLE, decide_true, decide_false, Nat.reduceEqDiff, Nat.reduceLT, reduceIte, cond_true, cond_false, List.map_cons, List.map_nil, Nat.reduceAdd]))
      | ((first | apply Ops.nil | apply Drs.nil | apply Ok.skip | apply Ok.exit | apply Ok.ret); try simp only [Then_n, Then_e, Then_r, Out_n, Out_e, Out_r, Nat.reduceEqDiff, reduceIte])
      | (apply Ok.drs (S := Sp) hmix)
      )
    refine ⟨_, fun k => res_3 _ _ _ _ _ k, ?_⟩
    simp (disch := omega) only [evs, evt, Int.reduceToNat, Int.reduceEq, Int.reduceLT, Int.reduceLE, decide_true, decide_false, Nat.reduceEqDiff, Nat.reduceLT, reduceIte, cond_true, cond_false, List.map_cons, List.map_nil, Nat.reduceAdd, one_3]
    exact ⟨by unfold takeT; rw [hc]; rfl, by trivial⟩
  · rw [hc]
    unfold tri
    have hdl : (l.drop k).length = l.length - k := List.length_drop
    have dz : decide ((0 : Int) = 0) = true := rfl
    cases d1 : decide (((l.drop k).length : Int) < (n : Int)) with
    | true =>
      have e1 := of_decide_eq_true d1
      repeat (first
        | ((first | apply Ops.op | apply Ops.op0 | apply Drs.bar | apply Drs.pure); case e => (intro k; simp (disch := omega) only [evs, evt, Int.reduceToNat, Int.reduceEq, Int.reduceLT, Int.reduceLE, decide_true, decide_false, Nat.reduceEqDiff, Nat.reduceLT, reduceIte, cond_true, cond_false, List.map_cons, List.map_nil, Nat.reduceAdd, dz, d1, ssaV_sv]; rfl))
        | ((first | apply Ops.g1 | apply Drs.g1); case e => (simp (disch := omega) only [evs, evt, Int.reduceToNat, Int.reduceEq, Int.reduceLT, Int.reduceLE, decide_true, decide_false, Nat.reduceEqDiff, Nat.reduceLT, reduceIte, cond_true, cond_false, List.map_cons, List.map_nil, Nat.reduceAdd, dz, d1, ssaV_sv]))
        | ((first | apply Ops.g0t | apply Ops.g0f | apply Drs.g0t | apply Drs.g0f); case e => (simp (disch := omega) only [evs, evt, Int.reduceToNat, Int.reduceEq, Int.reduceLT, Int.reduceLE, decide_true, decide_false, Nat.reduceEqDiff, Nat.reduceLT, reduceIte, cond_true, cond_false, List.map_cons, List.map_nil, Nat.reduceAdd, dz, d1, ssaV_sv]))
        | ((first | apply Ops.g0u | apply Drs.g0u); case e => (simp (disch := omega) only [evs, evt, Int.reduceToNat, Int.reduceEq, Int.reduceLT, Int.reduceLE, decide_true, decide_false, Nat.reduceEqDiff, Nat.reduceLT, reduceIte, cond_true, cond_false, List.map_cons, List.map_nil, Nat.reduceAdd, dz, d1, ssaV_sv]))
        | apply Ok.seq
        | apply Ok.block
        | (apply Ok.ops (S := Sp))
        | (apply Ok.condT; case e => (simp (disch := omega) only [evs, evt, Int.reduceToNat, Int.reduceEq, Int.reduceLT, Int.reduceLE, decide_true, decide_false, Nat.reduceEqDiff, Nat.reduceLT, reduceIte, cond_true, cond_false, List.map_cons, List.map_nil, Nat.reduceAdd, dz, d1, ssaV_sv]))
        | (apply Ok.condF; case e => (simp (disch := omega) only [evs, evt, Int.reduceToNat, Int.reduceEq, Int.reduceLT, Int.reduceLE, decide_true, decide_false, Nat.reduceEqDiff, Nat.reduceLT, reduceIte, cond_true, cond_false, List.map_cons, List.map_nil, Nat.reduceAdd, dz, d1, ssaV_sv]))
        | ((first | apply Ops.nil | apply Drs.nil | apply Ok.skip | apply Ok.exit | apply Ok.ret); try simp only [Then_n, Then_e, Then_r, Out_n, Out_e, Out_r, Nat.reduceEqDiff, reduceIte])
        | (apply Ok.drs (S := Sp) hmix)
        )
      refine ⟨_, fun k => res_3 _ _ _ _ _ k, ?_⟩
      simp (disch := omega) only [evs, evt, Int.reduceToNat, Int.reduceEq, Int.reduceLT, Int.reduceLE, decide_true, decide_false, Nat.reduceEqDiff, Nat.reduceLT, reduceIte, cond_true, cond_false, List.map_cons, List.map_nil, Nat.reduceAdd, one_3]
      refine ⟨?_, by trivial⟩
      unfold takeT
      rw [hc]
      simp only [if_true, Int.toNat_natCast]
      rw [if_pos e1]; rfl
    | false =>
      have e1 := of_decide_eq_false d1
      repeat (first
        | ((first | apply Ops.op | apply Ops.op0 | apply Drs.bar | apply Drs.pure); case e => (intro k; simp (disch := omega) only [evs, evt, Int.reduceToNat, Int.reduceEq, Int.reduceLT, Int.reduceLE, decide_true, decide_false, Nat.reduceEqDiff, Nat.reduceLT, reduceIte, cond_true, cond_false, List.map_cons, List.map_nil, Nat.reduceAdd, dz, d1, ssaV_sv, ssV_sv]; rfl))
        | ((first | apply Ops.g1 | apply Drs.g1); case e => (simp (disch := omega) only [evs, evt, Int.reduceToNat, Int.reduceEq, Int.reduceLT, Int.reduceLE, decide_true, decide_false, Nat.reduceEqDiff, Nat.reduceLT, reduceIte, cond_true, cond_false, List.map_cons, List.map_nil, Nat.reduceAdd, dz, d1, ssaV_sv, ssV_sv]))
        | ((first | apply Ops.g0t | apply Ops.g0f | apply Drs.g0t | apply Drs.g0f); case e => (simp (disch := omega) only [evs, evt, Int.reduceToNat, Int.reduceEq, Int.reduceLT, Int.reduceLE, decide_true, decide_false, Nat.reduceEqDiff, Nat.reduceLT, reduceIte, cond_true, cond_false, List.map_cons, List.map_nil, Nat.reduceAdd, dz, d1, ssaV_sv, ssV_sv]))
        | ((first | apply Ops.g0u | apply Drs.g0u); case e => (simp (disch := omega) only [evs, evt, Int.reduceToNat, Int.reduceEq, Int.reduceLT, Int.reduceLE, decide_true, decide_false, Nat.reduceEqDiff, Nat.reduceLT, reduceIte, cond_true, cond_false, List.map_cons, List.map_nil, Nat.reduceAdd, dz, d1, ssaV_sv, ssV_sv]))
        | apply Ok.seq
        | apply Ok.block
        | (apply Ok.ops (S := Sp))
        | (apply Ok.condT; case e => (simp (disch := omega) only [evs, evt, Int.reduceToNat, Int.reduceEq, Int.reduceLT, Int.reduceLE, decide_true, decide_false, Nat.reduceEqDiff, Nat.reduceLT, reduceIte, cond_true, cond_false, List.map_cons, List.map_nil, Nat.reduceAdd, dz, d1, ssaV_sv, ssV_sv]))
        | (apply Ok.condF; case e => (simp (disch := omega) only [evs, evt, Int.reduceToNat, Int.reduceEq, Int.reduceLT, Int.reduceLE, decide_true, decide_false, Nat.reduceEqDiff, Nat.reduceLT, reduceIte, cond_true, cond_false, List.map_cons, List.map_nil, Nat.reduceAdd, dz, d1, ssaV_sv, ssV_sv]))
        | ((first | apply Ops.nil | apply Drs.nil | apply Ok.skip | apply Ok.exit | apply Ok.ret); try simp only [Then_n, Then_e, Then_r, Out_n, Out_e, Out_r, Nat.reduceEqDiff, reduceIte])
        | (apply Ok.drs (S := Sp) hmix)
        )
      refine ⟨_, fun k => res_3 _ _ _ _ _ k, ?_⟩
      simp (disch := omega) only [evs, evt, Int.reduceToNat, Int.reduceEq, Int.reduceLT, Int.reduceLE, decide_true, decide_false, Nat.reduceEqDiff, Nat.reduceLT, reduceIte, cond_true, cond_false, List.map_cons, List.map_nil, Nat.reduceAdd, one_3]
      refine ⟨?_, by trivial⟩
      unfold takeT
      rw [hc]
      simp only [if_true, Int.toNat_natCast]
      rw [if_neg e1]; rfl

theorem less_ok {h : H} {a b : List UInt8} : FnOk Try.prog 52 [sv a, sv b] h fun y h' => y = .b (Op.bytesLess a b) ∧ h' = h := by
  refine fn_run c52 (by intro hb; cases hb) (by simp) (by simp) ?_
  simp only [slotsF, Nat.reduceAdd]
  unfold b52
  repeat (first
    | ((first | apply Ops.op | apply Ops.op0 | apply Drs.bar | apply Drs.pure); case e => (intro k; simp (disch := omega) only [evs, evt, Int.reduceToNat, Int.reduceEq, Int.reduceLT, Int.reduceLE, decide_true, decide_false, Nat.reduceEqDiff, Nat.reduceLT, reduceIte, cond_true, cond_false, List.map_cons, List.map_nil, Nat.reduceAdd]; rfl))
    | ((first | apply Ops.g1 | apply Drs.g1); case e => (simp (disch := omega) only [evs, evt, Int.reduceToNat, Int.reduceEq, Int.reduceLT, Int.reduceLE, decide_true, decide_false, Nat.reduceEqDiff, Nat.reduceLT, reduceIte, cond_true, cond_false, List.map_cons, List.map_nil, Nat.reduceAdd]))
    | ((first | apply Ops.g0t | apply Ops.g0f | apply Drs.g0t | apply Drs.g0f); case e => (simp (disch := omega) only [evs, evt, Int.reduceToNat, Int.reduceEq, Int.reduceLT, Int.reduceLE, decide_true, decide_false, Nat.reduceEqDiff, Nat.reduceLT, reduceIte, cond_true, cond_false, List.map_cons, List.map_nil, Nat.reduceAdd]))
    | ((first | apply Ops.g0u | apply Drs.g0u); case e => (simp (disch := omega) only [evs, evt, Int.reduceToNat, Int.reduceEq, Int.reduceLT, Int.reduceLE, decide_true, decide_false, Nat.reduceEqDiff, Nat.reduceLT, reduceIte, cond_true, cond_false, List.map_cons, List.map_nil, Nat.reduceAdd]))
    | apply Ok.seq
    | apply Ok.block
    | (apply Ok.ops (S := Sp))
    | (apply Ok.condT; case e => (simp (disch := omega) only [evs, evt, Int.reduceToNat, Int.reduceEq, Int.reduceLT, Int.reduceLE, decide_true, decide_false, Nat.reduceEqDiff, Nat.reduceLT, reduceIte, cond_true, cond_false, List.map_cons, List.map_nil, Nat.reduceAdd]))
    | (apply Ok.condF; case e => (simp (disch := omega) only [evs, evt, Int.reduceToNat, Int.reduceEq, Int.reduceLT, Int.reduceLE, decide_true, decide_false, Nat.reduceEqDiff, Nat.reduceLT, reduceIte, cond_true, cond_false, List.map_cons, List.map_nil, Nat.reduceAdd]))
    | ((first | apply Ops.nil | apply Drs.nil | apply Ok.skip | apply Ok.exit | apply Ok.ret); try simp only [Then_n, Then_e, Then_r, Out_n, Out_e, Out_r, Nat.reduceEqDiff, reduceIte])
    | (apply Ok.drs (S := Sp) hmix)
    )
  refine ⟨_, fun k => res_1 _ _ _ k, ?_⟩
  simp (disch := omega) only [evs, evt, Int.reduceToNat, Int.reduceEq, Int.reduceLT, Int.reduceLE, decide_true, decide_false, Nat.reduceEqDiff, Nat.reduceLT, reduceIte, cond_true, cond_false, List.map_cons, List.map_nil, Nat.reduceAdd, one_1]
  exact ⟨by trivial, by trivial⟩
end Go.Proofs.Ytpnflehemjbemaa
