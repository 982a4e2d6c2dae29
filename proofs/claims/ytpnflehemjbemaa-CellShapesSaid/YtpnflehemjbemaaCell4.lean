/- TakeNum, TakeText of the document, by what they compute. No condition. -/
import Derived.Test.YtpnflehemjbemaaIrCell
import Derived.Test.YtpnflehemjbemaaCellM
set_option maxRecDepth 100000
set_option maxHeartbeats 8000000
set_option linter.all false
namespace Go.Proofs.Ytpnflehemjbemaa
open Go Go.Ev

theorem rloop_ok {h : H} {w : UInt8} {r : List UInt8} (hwr : w.toNat ≤ r.length) (hl : (w :: r).length ≤ 1000000) (hb : ¬ badD (r.take w.toNat)) (t : F) (g0 : get 0 t = sv (w :: r)) (g5 : get 5 t = .i .i64 (w.toNat : Int)) (g6 : get 6 t = .i .i64 0) (g7 : get 7 t = .i .i64 1) :
    Ok Try.prog 52 (.loop l45_0) t h fun x t' h' => x = .exit 0 ∧ h' = h ∧ get 5 t' = .i .i64 (w.toNat : Int) ∧ get 6 t' = .i .i64 ((pk (r.take w.toNat) : Nat) : Int) := by
  have hlen : (w :: r).length = r.length + 1 := rfl
  have hw := w.toNat_lt
  have hv : pk (r.take w.toNat) ≤ 9223372036854775807 := by
    rcases Nat.lt_or_ge (pk (r.take w.toNat)) 9223372036854775808 with h1 | h1
    · omega
    · exact absurd (.inr h1) hb
  have mono : ∀ i, i ≤ w.toNat → pk (r.take i) ≤ pk (r.take w.toNat) := fun i hi => by
    have e : r.take w.toNat = r.take i ++ (r.take w.toNat).drop i := by
      conv => lhs; rw [← List.take_append_drop i (r.take w.toNat)]
      rw [List.take_take, Nat.min_eq_left hi]
    rw [e, pk_append]
    have : 1 ≤ 256 ^ ((r.take w.toNat).drop i).length := Nat.pow_pos (by omega)
    have := Nat.mul_le_mul_left (pk (r.take i)) this
    omega
  refine Ok.loop (fun m t g => ∃ i : Nat, i ≤ w.toNat ∧ m = w.toNat - i ∧ g = h ∧ get 0 t = sv (w :: r) ∧ get 5 t = .i .i64 (w.toNat : Int) ∧ get 6 t = .i .i64 ((pk (r.take i) : Nat) : Int) ∧ get 7 t = .i .i64 ((i + 1 : Nat) : Int)) ?_ w.toNat _ _ ?_
  · rintro m t g ⟨i, hi, rfl, rfl, f0, f5, f6, f7⟩
    unfold l45_0
    repeat (first
      | ((first | apply Ops.op | apply Ops.op0 | apply Drs.bar | apply Drs.pure); case e => (intro k; simp (disch := omega) only [evs, evt, Int.reduceToNat, Int.reduceEq, Int.reduceLT, Int.reduceLE, decide_true, decide_false, Nat.reduceEqDiff, Nat.reduceLT, reduceIte, cond_true, cond_false, List.map_cons, List.map_nil, Nat.reduceAdd, f0, f5, f6, f7]; rfl))
      | ((first | apply Ops.g1 | apply Drs.g1); case e => (simp (disch := omega) only [evs, evt, Int.reduceToNat, Int.reduceEq, Int.reduceLT, Int.reduceLE, decide_true, decide_false, Nat.reduceEqDiff, Nat.reduceLT, reduceIte, cond_true, cond_false, List.map_cons, List.map_nil, Nat.reduceAdd, f0, f5, f6, f7]))
      | ((first | apply Ops.g0t | apply Ops.g0f | apply Drs.g0t | apply Drs.g0f); case e => (simp (disch := omega) only [evs, evt, Int.reduceToNat, Int.reduceEq, Int.reduceLT, Int.reduceLE, decide_true, decide_false, Nat.reduceEqDiff, Nat.reduceLT, reduceIte, cond_true, cond_false, List.map_cons, List.map_nil, Nat.reduceAdd, f0, f5, f6, f7]))
      | ((first | apply Ops.g0u | apply Drs.g0u); case e => (simp (disch := omega) only [evs, evt, Int.reduceToNat, Int.reduceEq, Int.reduceLT, Int.reduceLE, decide_true, decide_false, Nat.reduceEqDiff, Nat.reduceLT, reduceIte, cond_true, cond_false, List.map_cons, List.map_nil, Nat.reduceAdd, f0, f5, f6, f7]))
      | apply Ok.seq
      | apply Ok.block
      | (apply Ok.ops (S := Sp))
      | (apply Ok.condT; case e => (simp (disch := omega) only [evs, evt, Int.reduceToNat, Int.reduceEq, Int.reduceLT, Int.reduceLE, decide_true, decide_false, Nat.reduceEqDiff, Nat.reduceLT, reduceIte, cond_true, cond_false, List.map_cons, List.map_nil, Nat.reduceAdd, f0, f5, f6, f7]))
      | (apply Ok.condF; case e => (simp (disch := omega) only [evs, evt, Int.reduceToNat, Int.reduceEq, Int.reduceLT, Int.reduceLE, decide_true, decide_false, Nat.reduceEqDiff, Nat.reduceLT, reduceIte, cond_true, cond_false, List.map_cons, List.map_nil, Nat.reduceAdd, f0, f5, f6, f7]))
      | ((first | apply Ops.nil | apply Drs.nil | apply Ok.skip | apply Ok.exit | apply Ok.ret); try simp only [Then_n, Then_e, Then_r, Out_n, Out_e, Out_r, Nat.reduceEqDiff, reduceIte])
      | (apply Ok.drs (S := Sp) hmix)
      )
    apply Ok.cond
    case hq => (simp (disch := omega) only [evs, evt, Int.reduceToNat, Int.reduceEq, Int.reduceLT, Int.reduceLE, decide_true, decide_false, Nat.reduceEqDiff, Nat.reduceLT, reduceIte, cond_true, cond_false, List.map_cons, List.map_nil, Nat.reduceAdd, f5, f7]; rfl)
    case hb =>
      intro hc
      have hc := of_decide_eq_false hc
      have : i = w.toNat := by omega
      subst this
      repeat (first
        | ((first | apply Ops.op | apply Ops.op0 | apply Drs.bar | apply Drs.pure); case e => (intro k; simp (disch := omega) only [evs, evt, Int.reduceToNat, Int.reduceEq, Int.reduceLT, Int.reduceLE, decide_true, decide_false, Nat.reduceEqDiff, Nat.reduceLT, reduceIte, cond_true, cond_false, List.map_cons, List.map_nil, Nat.reduceAdd]; rfl))
        | ((first | apply Ops.g1 | apply Drs.g1); case e => (simp (disch := omega) only [evs, evt, Int.reduceToNat, Int.reduceEq, Int.reduceLT, Int.reduceLE, decide_true, decide_false, Nat.reduceEqDiff, Nat.reduceLT, reduceIte, cond_true, cond_false, List.map_cons, List.map_nil, Nat.reduceAdd]))
        | ((first | apply Ops.g0t | apply Ops.g0f | apply Drs.g0t | apply Drs.g0f); case e => (simp (disch := omega) only [evs, evt, Int.reduceToNat, Int.reduceEq, Int.reduceLT, Int.reduceLE, decide_true, decide_false, Nat.reduceEqDiff, Nat.reduceLT, reduceIte, cond_true, cond_false, List.map_cons, List.map_nil, Nat.reduceAdd]))
        | ((first | apply Ops.g0u | apply Drs.g0u); case e => (simp (disch := omega) only [evs, evt, Int.reduceToNat, Int.reduceEq, Int.reduceLT, Int.reduceLE, decide_true, decide_false, Nat.reduceEqDiff, Nat.reduceLT, reduceIte, cond_true, cond_false, List.map_cons, List.map_nil, Nat.reduceAdd]))
        | apply Ok.seq
        | apply Ok.block
        | (apply Ok.ops (S := Sp))
        | (apply Ok.condT; case e => (simp (disch := omega) only [evs, evt, Int.reduceToNat, Int.reduceEq, Int.reduceLT, Int.reduceLE, decide_true, decide_false, Nat.reduceEqDiff, Nat.reduceLT, reduceIte, cond_true, cond_false, List.map_cons, List.map_nil, Nat.reduceAdd]))
        | (apply Ok.condF; case e => (simp (disch := omega) only [evs, evt, Int.reduceToNat, Int.reduceEq, Int.reduceLT, Int.reduceLE, decide_true, decide_false, Nat.reduceEqDiff, Nat.reduceLT, reduceIte, cond_true, cond_false, List.map_cons, List.map_nil, Nat.reduceAdd]))
        | ((first | apply Ops.nil | apply Drs.nil | apply Ok.skip | apply Ok.exit | apply Ok.ret); try simp only [Then_n, Then_e, Then_r, Out_n, Out_e, Out_r, Nat.reduceEqDiff, reduceIte])
        | (apply Ok.drs (S := Sp) hmix)
        )
      exact ⟨by trivial, by trivial, by simp (disch := omega) only [evs, evt, Int.reduceToNat, Int.reduceEq, Int.reduceLT, Int.reduceLE, decide_true, decide_false, Nat.reduceEqDiff, Nat.reduceLT, reduceIte, cond_true, cond_false, List.map_cons, List.map_nil, Nat.reduceAdd, f5], by simp (disch := omega) only [evs, evt, Int.reduceToNat, Int.reduceEq, Int.reduceLT, Int.reduceLE, decide_true, decide_false, Nat.reduceEqDiff, Nat.reduceLT, reduceIte, cond_true, cond_false, List.map_cons, List.map_nil, Nat.reduceAdd, f6]⟩
    case ha =>
      intro hc
      have hc := of_decide_eq_true hc
      have hii : (w :: r).getD (i + 1) 0 = r.getD i 0 := rfl
      have hci := (r.getD i 0).toNat_lt
      have hp := mono (i + 1) (by omega)
      rw [pk_take (by omega)] at hp
      have ep : ((pk (r.take i) : Nat) : Int) * 256 + ((r.getD i 0).toNat : Int) = ((pk (r.take (i + 1)) : Nat) : Int) := by rw [pk_take (by omega)]; omega
      repeat (first
        | ((first | apply Ops.op | apply Ops.op0 | apply Drs.bar | apply Drs.pure); case e => (intro k; simp (disch := omega) only [evs, evt, Int.reduceToNat, Int.reduceEq, Int.reduceLT, Int.reduceLE, decide_true, decide_false, Nat.reduceEqDiff, Nat.reduceLT, reduceIte, cond_true, cond_false, List.map_cons, List.map_nil, Nat.reduceAdd, f0, f5, f6, f7, sixV_sv, hii, ep]; rfl))
        | ((first | apply Ops.g1 | apply Drs.g1); case e => (simp (disch := omega) only [evs, evt, Int.reduceToNat, Int.reduceEq, Int.reduceLT, Int.reduceLE, decide_true, decide_false, Nat.reduceEqDiff, Nat.reduceLT, reduceIte, cond_true, cond_false, List.map_cons, List.map_nil, Nat.reduceAdd, f0, f5, f6, f7, sixV_sv, hii, ep]))
        | ((first | apply Ops.g0t | apply Ops.g0f | apply Drs.g0t | apply Drs.g0f); case e => (simp (disch := omega) only [evs, evt, Int.reduceToNat, Int.reduceEq, Int.reduceLT, Int.reduceLE, decide_true, decide_false, Nat.reduceEqDiff, Nat.reduceLT, reduceIte, cond_true, cond_false, List.map_cons, List.map_nil, Nat.reduceAdd, f0, f5, f6, f7, sixV_sv, hii, ep]))
        | ((first | apply Ops.g0u | apply Drs.g0u); case e => (simp (disch := omega) only [evs, evt, Int.reduceToNat, Int.reduceEq, Int.reduceLT, Int.reduceLE, decide_true, decide_false, Nat.reduceEqDiff, Nat.reduceLT, reduceIte, cond_true, cond_false, List.map_cons, List.map_nil, Nat.reduceAdd, f0, f5, f6, f7, sixV_sv, hii, ep]))
        | apply Ok.seq
        | apply Ok.block
        | (apply Ok.ops (S := Sp))
        | (apply Ok.condT; case e => (simp (disch := omega) only [evs, evt, Int.reduceToNat, Int.reduceEq, Int.reduceLT, Int.reduceLE, decide_true, decide_false, Nat.reduceEqDiff, Nat.reduceLT, reduceIte, cond_true, cond_false, List.map_cons, List.map_nil, Nat.reduceAdd, f0, f5, f6, f7, sixV_sv, hii, ep]))
        | (apply Ok.condF; case e => (simp (disch := omega) only [evs, evt, Int.reduceToNat, Int.reduceEq, Int.reduceLT, Int.reduceLE, decide_true, decide_false, Nat.reduceEqDiff, Nat.reduceLT, reduceIte, cond_true, cond_false, List.map_cons, List.map_nil, Nat.reduceAdd, f0, f5, f6, f7, sixV_sv, hii, ep]))
        | ((first | apply Ops.nil | apply Drs.nil | apply Ok.skip | apply Ok.exit | apply Ok.ret); try simp only [Then_n, Then_e, Then_r, Out_n, Out_e, Out_r, Nat.reduceEqDiff, reduceIte])
        | (apply Ok.drs (S := Sp) hmix)
        )
      refine ⟨w.toNat - (i + 1), by omega, i + 1, by omega, rfl, by trivial, by simp (disch := omega) only [evs, evt, Int.reduceToNat, Int.reduceEq, Int.reduceLT, Int.reduceLE, decide_true, decide_false, Nat.reduceEqDiff, Nat.reduceLT, reduceIte, cond_true, cond_false, List.map_cons, List.map_nil, Nat.reduceAdd, f0], by simp (disch := omega) only [evs, evt, Int.reduceToNat, Int.reduceEq, Int.reduceLT, Int.reduceLE, decide_true, decide_false, Nat.reduceEqDiff, Nat.reduceLT, reduceIte, cond_true, cond_false, List.map_cons, List.map_nil, Nat.reduceAdd, f5], by simp (disch := omega) only [evs, evt, Int.reduceToNat, Int.reduceEq, Int.reduceLT, Int.reduceLE, decide_true, decide_false, Nat.reduceEqDiff, Nat.reduceLT, reduceIte, cond_true, cond_false, List.map_cons, List.map_nil, Nat.reduceAdd, ep], ?_⟩
      simp (disch := omega) only [evs, evt, Int.reduceToNat, Int.reduceEq, Int.reduceLT, Int.reduceLE, decide_true, decide_false, Nat.reduceEqDiff, Nat.reduceLT, reduceIte, cond_true, cond_false, List.map_cons, List.map_nil, Nat.reduceAdd, f7, Int.natCast_add, Int.natCast_one]
  · exact ⟨0, Nat.zero_le _, rfl, rfl, g0, g5, by rw [g6]; rfl, by rw [g7]; rfl⟩

theorem rtakeNum_ok {h : H} {l : List UInt8} (hl : l.length ≤ 1000000) : FnOk Try.prog 45 [sv l] h fun y h' => y = tri (takeN l) ∧ h' = h := by
  refine fn_run c45 (by intro hb; cases hb) (by simp) (by simp) ?_
  simp only [slotsF, Nat.reduceAdd]
  unfold b45
  cases l with
  | nil =>
    have d : decide ((([] : List UInt8).length : Int) = 0) = true := rfl
    repeat (first
      | ((first | apply Ops.op | apply Ops.op0 | apply Drs.bar | apply Drs.pure); case e => (intro k; simp (disch := omega) only [evs, evt, Int.reduceToNat, Int.reduceEq, Int.reduceLT, Int.reduceLE, decide_true, decide_false, Nat.reduceEqDiff, Nat.reduceLT, reduceIte, cond_true, cond_false, List.map_cons, List.map_nil, Nat.reduceAdd, d]; rfl))
      | ((first | apply Ops.g1 | apply Drs.g1); case e => (simp (disch := omega) only [evs, evt, Int.reduceToNat, Int.reduceEq, Int.reduceLT, Int.reduceLE, decide_true, decide_false, Nat.reduceEqDiff, Nat.reduceLT, reduceIte, cond_true, cond_false, List.map_cons, List.map_nil, Nat.reduceAdd, d]))
      | ((first | apply Ops.g0t | apply Ops.g0f | apply Drs.g0t | apply Drs.g0f); case e => (simp (disch := omega) only [evs, evt, Int.reduceToNat, Int.reduceEq, Int.reduceLT, Int.reduceLE, decide_true, decide_false, Nat.reduceEqDiff, Nat.reduceLT, reduceIte, cond_true, cond_false, List.map_cons, List.map_nil, Nat.reduceAdd, d]))
      | ((first | apply Ops.g0u | apply Drs.g0u); case e => (simp (disch := omega) only [evs, evt, Int.reduceToNat, Int.reduceEq, Int.reduceLT, Int.reduceLE, decide_true, decide_false, Nat.reduceEqDiff, Nat.reduceLT, reduceIte, cond_true, cond_false, List.map_cons, List.map_nil, Nat.reduceAdd, d]))
      | apply Ok.seq
      | apply Ok.block
      | (apply Ok.ops (S := Sp))
      | (apply Ok.condT; case e => (simp (disch := omega) only [evs, evt, Int.reduceToNat, Int.reduceEq, Int.reduceLT, Int.reduceLE, decide_true, decide_false, Nat.reduceEqDiff, Nat.reduceLT, reduceIte, cond_true, cond_false, List.map_cons, List.map_nil, Nat.reduceAdd, d]))
      | (apply Ok.condF; case e => (simp (disch := omega) only [evs, evt, Int.reduceToNat, Int.reduceEq, Int.reduceLT, Int.reduceLE, decide_true, decide_false, Nat.reduceEqDiff, Nat.reduceLT, reduceIte, cond_true, cond_false, List.map_cons, List.map_nil, Nat.reduceAdd, d]))
      | ((first | apply Ops.nil | apply Drs.nil | apply Ok.skip | apply Ok.exit | apply Ok.ret); try simp only [Then_n, Then_e, Then_r, Out_n, Out_e, Out_r, Nat.reduceEqDiff, reduceIte])
      | (apply Ok.drs (S := Sp) hmix)
      )
    refine ⟨_, fun k => res_3 _ _ _ _ _ k, ?_⟩
    simp (disch := omega) only [evs, evt, Int.reduceToNat, Int.reduceEq, Int.reduceLT, Int.reduceLE, decide_true, decide_false, Nat.reduceEqDiff, Nat.reduceLT, reduceIte, cond_true, cond_false, List.map_cons, List.map_nil, Nat.reduceAdd, one_3]
    exact ⟨rfl, by trivial⟩
  | cons w r =>
    have hlen : (w :: r).length = r.length + 1 := rfl
    have hw := w.toNat_lt
    have hgd : (w :: r).getD 0 0 = w := rfl
    have hgd1 : (w :: r).getD 1 0 = r.getD 0 0 := rfl
    have d0 : decide (((w :: r).length : Int) = 0) = false := decide_eq_false (by omega)
    cases d1 : decide ((8 : Int) < (w.toNat : Int)) with
    | true =>
      have e1 := of_decide_eq_true d1
      repeat (first
        | ((first | apply Ops.op | apply Ops.op0 | apply Drs.bar | apply Drs.pure); case e => (intro k; simp (disch := omega) only [evs, evt, Int.reduceToNat, Int.reduceEq, Int.reduceLT, Int.reduceLE, decide_true, decide_false, Nat.reduceEqDiff, Nat.reduceLT, reduceIte, cond_true, cond_false, List.map_cons, List.map_nil, Nat.reduceAdd, d0, d1, hgd, sixV_sv]; rfl))
        | ((first | apply Ops.g1 | apply Drs.g1); case e => (simp (disch := omega) only [evs, evt, Int.reduceToNat, Int.reduceEq, Int.reduceLT, Int.reduceLE, decide_true, decide_false, Nat.reduceEqDiff, Nat.reduceLT, reduceIte, cond_true, cond_false, List.map_cons, List.map_nil, Nat.reduceAdd, d0, d1, hgd, sixV_sv]))
        | ((first | apply Ops.g0t | apply Ops.g0f | apply Drs.g0t | apply Drs.g0f); case e => (simp (disch := omega) only [evs, evt, Int.reduceToNat, Int.reduceEq, Int.reduceLT, Int.reduceLE, decide_true, decide_false, Nat.reduceEqDiff, Nat.reduceLT, reduceIte, cond_true, cond_false, List.map_cons, List.map_nil, Nat.reduceAdd, d0, d1, hgd, sixV_sv]))
        | ((first | apply Ops.g0u | apply Drs.g0u); case e => (simp (disch := omega) only [evs, evt, Int.reduceToNat, Int.reduceEq, Int.reduceLT, Int.reduceLE, decide_true, decide_false, Nat.reduceEqDiff, Nat.reduceLT, reduceIte, cond_true, cond_false, List.map_cons, List.map_nil, Nat.reduceAdd, d0, d1, hgd, sixV_sv]))
        | apply Ok.seq
        | apply Ok.block
        | (apply Ok.ops (S := Sp))
        | (apply Ok.condT; case e => (simp (disch := omega) only [evs, evt, Int.reduceToNat, Int.reduceEq, Int.reduceLT, Int.reduceLE, decide_true, decide_false, Nat.reduceEqDiff, Nat.reduceLT, reduceIte, cond_true, cond_false, List.map_cons, List.map_nil, Nat.reduceAdd, d0, d1, hgd, sixV_sv]))
        | (apply Ok.condF; case e => (simp (disch := omega) only [evs, evt, Int.reduceToNat, Int.reduceEq, Int.reduceLT, Int.reduceLE, decide_true, decide_false, Nat.reduceEqDiff, Nat.reduceLT, reduceIte, cond_true, cond_false, List.map_cons, List.map_nil, Nat.reduceAdd, d0, d1, hgd, sixV_sv]))
        | ((first | apply Ops.nil | apply Drs.nil | apply Ok.skip | apply Ok.exit | apply Ok.ret); try simp only [Then_n, Then_e, Then_r, Out_n, Out_e, Out_r, Nat.reduceEqDiff, reduceIte])
        | (apply Ok.drs (S := Sp) hmix)
        )
      refine ⟨_, fun k => res_3 _ _ _ _ _ k, ?_⟩
      simp (disch := omega) only [evs, evt, Int.reduceToNat, Int.reduceEq, Int.reduceLT, Int.reduceLE, decide_true, decide_false, Nat.reduceEqDiff, Nat.reduceLT, reduceIte, cond_true, cond_false, List.map_cons, List.map_nil, Nat.reduceAdd, one_3]
      exact ⟨by rw [takeN_big (by omega)]; rfl, by trivial⟩
    | false =>
      have e1 := of_decide_eq_false d1
      cases d2 : decide (((w :: r).length : Int) < (w.toNat : Int) + 1) with
      | true =>
        have e2 := of_decide_eq_true d2
        repeat (first
          | ((first | apply Ops.op | apply Ops.op0 | apply Drs.bar | apply Drs.pure); case e => (intro k; simp (disch := omega) only [evs, evt, Int.reduceToNat, Int.reduceEq, Int.reduceLT, Int.reduceLE, decide_true, decide_false, Nat.reduceEqDiff, Nat.reduceLT, reduceIte, cond_true, cond_false, List.map_cons, List.map_nil, Nat.reduceAdd, d0, d1, d2, hgd, sixV_sv]; rfl))
          | ((first | apply Ops.g1 | apply Drs.g1); case e => (simp (disch := omega) only [evs, evt, Int.reduceToNat, Int.reduceEq, Int.reduceLT, Int.reduceLE, decide_true, decide_false, Nat.reduceEqDiff, Nat.reduceLT, reduceIte, cond_true, cond_false, List.map_cons, List.map_nil, Nat.reduceAdd, d0, d1, d2, hgd, sixV_sv]))
          | ((first | apply Ops.g0t | apply Ops.g0f | apply Drs.g0t | apply Drs.g0f); case e => (simp (disch := omega) only [evs, evt, Int.reduceToNat, Int.reduceEq, Int.reduceLT, Int.reduceLE, decide_true, decide_false, Nat.reduceEqDiff, Nat.reduceLT, reduceIte, cond_true, cond_false, List.map_cons, List.map_nil, Nat.reduceAdd, d0, d1, d2, hgd, sixV_sv]))
          | ((first | apply Ops.g0u | apply Drs.g0u); case e => (simp (disch := omega) only [evs, evt, Int.reduceToNat, Int.reduceEq, Int.reduceLT, Int.reduceLE, decide_true, decide_false, Nat.reduceEqDiff, Nat.reduceLT, reduceIte, cond_true, cond_false, List.map_cons, List.map_nil, Nat.reduceAdd, d0, d1, d2, hgd, sixV_sv]))
          | apply Ok.seq
          | apply Ok.block
          | (apply Ok.ops (S := Sp))
          | (apply Ok.condT; case e => (simp (disch := omega) only [evs, evt, Int.reduceToNat, Int.reduceEq, Int.reduceLT, Int.reduceLE, decide_true, decide_false, Nat.reduceEqDiff, Nat.reduceLT, reduceIte, cond_true, cond_false, List.map_cons, List.map_nil, Nat.reduceAdd, d0, d1, d2, hgd, sixV_sv]))
          | (apply Ok.condF; case e => (simp (disch := omega) only [evs, evt, Int.reduceToNat, Int.reduceEq, Int.reduceLT, Int.reduceLE, decide_true, decide_false, Nat.reduceEqDiff, Nat.reduceLT, reduceIte, cond_true, cond_false, List.map_cons, List.map_nil, Nat.reduceAdd, d0, d1, d2, hgd, sixV_sv]))
          | ((first | apply Ops.nil | apply Drs.nil | apply Ok.skip | apply Ok.exit | apply Ok.ret); try simp only [Then_n, Then_e, Then_r, Out_n, Out_e, Out_r, Nat.reduceEqDiff, reduceIte])
          | (apply Ok.drs (S := Sp) hmix)
          )
        refine ⟨_, fun k => res_3 _ _ _ _ _ k, ?_⟩
        simp (disch := omega) only [evs, evt, Int.reduceToNat, Int.reduceEq, Int.reduceLT, Int.reduceLE, decide_true, decide_false, Nat.reduceEqDiff, Nat.reduceLT, reduceIte, cond_true, cond_false, List.map_cons, List.map_nil, Nat.reduceAdd, one_3]
        exact ⟨by rw [takeN_short (by omega) (by omega)]; rfl, by trivial⟩
      | false =>
        have e2 := of_decide_eq_false d2
        have hbad := fun (_ : Unit) => badD_iff (r := r) (k := w.toNat) (by omega) (by omega)
        have hc1 := (r.getD 0 0).toNat_lt
        have wrong : badD (r.take w.toNat) → tri (0, 0, 10) = tri (takeN (w :: r)) := fun hb => by rw [takeN_bad (by omega) (by omega) hb]
        have right : ¬ badD (r.take w.toNat) → .tu [.i .i64 ((pk (r.take w.toNat) : Nat) : Int), .i .i64 ((w.toNat : Int) + 1), .i .i64 0] = tri (takeN (w :: r)) := fun hb => by rw [takeN_ok (by omega) (by omega) hb]; rfl
        have lp := fun hb t g0 g5 g6 g7 => rloop_ok (h := h) (w := w) (r := r) (by omega) hl hb t g0 g5 g6 g7
        cases d3 : decide ((0 : Int) < (w.toNat : Int)) with
        | true =>
          have e3 := of_decide_eq_true d3
          cases d4 : decide (((r.getD 0 0).toNat : Int) = 0) with
          | true =>
            have e4 := of_decide_eq_true d4
            repeat (first
              | ((first | apply Ops.op | apply Ops.op0 | apply Drs.bar | apply Drs.pure); case e => (intro k; simp (disch := omega) only [evs, evt, Int.reduceToNat, Int.reduceEq, Int.reduceLT, Int.reduceLE, decide_true, decide_false, Nat.reduceEqDiff, Nat.reduceLT, reduceIte, cond_true, cond_false, List.map_cons, List.map_nil, Nat.reduceAdd, d0, d1, d2, d3, d4, hgd, hgd1, sixV_sv]; rfl))
              | ((first | apply Ops.g1 | apply Drs.g1); case e => (simp (disch := omega) only [evs, evt, Int.reduceToNat, Int.reduceEq, Int.reduceLT, Int.reduceLE, decide_true, decide_false, Nat.reduceEqDiff, Nat.reduceLT, reduceIte, cond_true, cond_false, List.map_cons, List.map_nil, Nat.reduceAdd, d0, d1, d2, d3, d4, hgd, hgd1, sixV_sv]))
              | ((first | apply Ops.g0t | apply Ops.g0f | apply Drs.g0t | apply Drs.g0f); case e => (simp (disch := omega) only [evs, evt, Int.reduceToNat, Int.reduceEq, Int.reduceLT, Int.reduceLE, decide_true, decide_false, Nat.reduceEqDiff, Nat.reduceLT, reduceIte, cond_true, cond_false, List.map_cons, List.map_nil, Nat.reduceAdd, d0, d1, d2, d3, d4, hgd, hgd1, sixV_sv]))
              | ((first | apply Ops.g0u | apply Drs.g0u); case e => (simp (disch := omega) only [evs, evt, Int.reduceToNat, Int.reduceEq, Int.reduceLT, Int.reduceLE, decide_true, decide_false, Nat.reduceEqDiff, Nat.reduceLT, reduceIte, cond_true, cond_false, List.map_cons, List.map_nil, Nat.reduceAdd, d0, d1, d2, d3, d4, hgd, hgd1, sixV_sv]))
              | apply Ok.seq
              | apply Ok.block
              | (apply Ok.ops (S := Sp))
              | (apply Ok.condT; case e => (simp (disch := omega) only [evs, evt, Int.reduceToNat, Int.reduceEq, Int.reduceLT, Int.reduceLE, decide_true, decide_false, Nat.reduceEqDiff, Nat.reduceLT, reduceIte, cond_true, cond_false, List.map_cons, List.map_nil, Nat.reduceAdd, d0, d1, d2, d3, d4, hgd, hgd1, sixV_sv]))
              | (apply Ok.condF; case e => (simp (disch := omega) only [evs, evt, Int.reduceToNat, Int.reduceEq, Int.reduceLT, Int.reduceLE, decide_true, decide_false, Nat.reduceEqDiff, Nat.reduceLT, reduceIte, cond_true, cond_false, List.map_cons, List.map_nil, Nat.reduceAdd, d0, d1, d2, d3, d4, hgd, hgd1, sixV_sv]))
              | ((first | apply Ops.nil | apply Drs.nil | apply Ok.skip | apply Ok.exit | apply Ok.ret); try simp only [Then_n, Then_e, Then_r, Out_n, Out_e, Out_r, Nat.reduceEqDiff, reduceIte])
              | (apply Ok.drs (S := Sp) hmix)
              )
            refine ⟨_, fun k => res_3 _ _ _ _ _ k, ?_⟩
            simp (disch := omega) only [evs, evt, Int.reduceToNat, Int.reduceEq, Int.reduceLT, Int.reduceLE, decide_true, decide_false, Nat.reduceEqDiff, Nat.reduceLT, reduceIte, cond_true, cond_false, List.map_cons, List.map_nil, Nat.reduceAdd, one_3]
            exact ⟨wrong ((hbad ()).2 (.inl ⟨by omega, by omega⟩)), by trivial⟩
          | false =>
            have e4 := of_decide_eq_false d4
            cases d5 : decide ((w.toNat : Int) = 8) with
            | true =>
              have e5 := of_decide_eq_true d5
              cases d6 : decide ((128 : Int) ≤ ((r.getD 0 0).toNat : Int)) with
              | true =>
                have e6 := of_decide_eq_true d6
                repeat (first
                  | ((first | apply Ops.op | apply Ops.op0 | apply Drs.bar | apply Drs.pure); case e => (intro k; simp (disch := omega) only [evs, evt, Int.reduceToNat, Int.reduceEq, Int.reduceLT, Int.reduceLE, decide_true, decide_false, Nat.reduceEqDiff, Nat.reduceLT, reduceIte, cond_true, cond_false, List.map_cons, List.map_nil, Nat.reduceAdd, d0, d1, d2, d3, d4, d5, d6, hgd, hgd1, sixV_sv]; rfl))
                  | ((first | apply Ops.g1 | apply Drs.g1); case e => (simp (disch := omega) only [evs, evt, Int.reduceToNat, Int.reduceEq, Int.reduceLT, Int.reduceLE, decide_true, decide_false, Nat.reduceEqDiff, Nat.reduceLT, reduceIte, cond_true, cond_false, List.map_cons, List.map_nil, Nat.reduceAdd, d0, d1, d2, d3, d4, d5, d6, hgd, hgd1, sixV_sv]))
                  | ((first | apply Ops.g0t | apply Ops.g0f | apply Drs.g0t | apply Drs.g0f); case e => (simp (disch := omega) only [evs, evt, Int.reduceToNat, Int.reduceEq, Int.reduceLT, Int.reduceLE, decide_true, decide_false, Nat.reduceEqDiff, Nat.reduceLT, reduceIte, cond_true, cond_false, List.map_cons, List.map_nil, Nat.reduceAdd, d0, d1, d2, d3, d4, d5, d6, hgd, hgd1, sixV_sv]))
                  | ((first | apply Ops.g0u | apply Drs.g0u); case e => (simp (disch := omega) only [evs, evt, Int.reduceToNat, Int.reduceEq, Int.reduceLT, Int.reduceLE, decide_true, decide_false, Nat.reduceEqDiff, Nat.reduceLT, reduceIte, cond_true, cond_false, List.map_cons, List.map_nil, Nat.reduceAdd, d0, d1, d2, d3, d4, d5, d6, hgd, hgd1, sixV_sv]))
                  | apply Ok.seq
                  | apply Ok.block
                  | (apply Ok.ops (S := Sp))
                  | (apply Ok.condT; case e => (simp (disch := omega) only [evs, evt, Int.reduceToNat, Int.reduceEq, Int.reduceLT, Int.reduceLE, decide_true, decide_false, Nat.reduceEqDiff, Nat.reduceLT, reduceIte, cond_true, cond_false, List.map_cons, List.map_nil, Nat.reduceAdd, d0, d1, d2, d3, d4, d5, d6, hgd, hgd1, sixV_sv]))
                  | (apply Ok.condF; case e => (simp (disch := omega) only [evs, evt, Int.reduceToNat, Int.reduceEq, Int.reduceLT, Int.reduceLE, decide_true, decide_false, Nat.reduceEqDiff, Nat.reduceLT, reduceIte, cond_true, cond_false, List.map_cons, List.map_nil, Nat.reduceAdd, d0, d1, d2, d3, d4, d5, d6, hgd, hgd1, sixV_sv]))
                  | ((first | apply Ops.nil | apply Drs.nil | apply Ok.skip | apply Ok.exit | apply Ok.ret); try simp only [Then_n, Then_e, Then_r, Out_n, Out_e, Out_r, Nat.reduceEqDiff, reduceIte])
                  | (apply Ok.drs (S := Sp) hmix)
                  )
                refine ⟨_, fun k => res_3 _ _ _ _ _ k, ?_⟩
                simp (disch := omega) only [evs, evt, Int.reduceToNat, Int.reduceEq, Int.reduceLT, Int.reduceLE, decide_true, decide_false, Nat.reduceEqDiff, Nat.reduceLT, reduceIte, cond_true, cond_false, List.map_cons, List.map_nil, Nat.reduceAdd, one_3]
                exact ⟨wrong ((hbad ()).2 (.inr ⟨by omega, by omega⟩)), by trivial⟩
              | false =>
                have e6 := of_decide_eq_false d6
                have good : ¬ badD (r.take w.toNat) := fun hb => by rcases (hbad ()).1 hb with h1 | h1 <;> omega
                repeat (first
                  | ((first | apply Ops.op | apply Ops.op0 | apply Drs.bar | apply Drs.pure); case e => (intro k; simp (disch := omega) only [evs, evt, Int.reduceToNat, Int.reduceEq, Int.reduceLT, Int.reduceLE, decide_true, decide_false, Nat.reduceEqDiff, Nat.reduceLT, reduceIte, cond_true, cond_false, List.map_cons, List.map_nil, Nat.reduceAdd, d0, d1, d2, d3, d4, d5, d6, hgd, hgd1, sixV_sv]; rfl))
                  | ((first | apply Ops.g1 | apply Drs.g1); case e => (simp (disch := omega) only [evs, evt, Int.reduceToNat, Int.reduceEq, Int.reduceLT, Int.reduceLE, decide_true, decide_false, Nat.reduceEqDiff, Nat.reduceLT, reduceIte, cond_true, cond_false, List.map_cons, List.map_nil, Nat.reduceAdd, d0, d1, d2, d3, d4, d5, d6, hgd, hgd1, sixV_sv]))
                  | ((first | apply Ops.g0t | apply Ops.g0f | apply Drs.g0t | apply Drs.g0f); case e => (simp (disch := omega) only [evs, evt, Int.reduceToNat, Int.reduceEq, Int.reduceLT, Int.reduceLE, decide_true, decide_false, Nat.reduceEqDiff, Nat.reduceLT, reduceIte, cond_true, cond_false, List.map_cons, List.map_nil, Nat.reduceAdd, d0, d1, d2, d3, d4, d5, d6, hgd, hgd1, sixV_sv]))
                  | ((first | apply Ops.g0u | apply Drs.g0u); case e => (simp (disch := omega) only [evs, evt, Int.reduceToNat, Int.reduceEq, Int.reduceLT, Int.reduceLE, decide_true, decide_false, Nat.reduceEqDiff, Nat.reduceLT, reduceIte, cond_true, cond_false, List.map_cons, List.map_nil, Nat.reduceAdd, d0, d1, d2, d3, d4, d5, d6, hgd, hgd1, sixV_sv]))
                  | apply Ok.seq
                  | apply Ok.block
                  | (apply Ok.ops (S := Sp))
                  | (apply Ok.condT; case e => (simp (disch := omega) only [evs, evt, Int.reduceToNat, Int.reduceEq, Int.reduceLT, Int.reduceLE, decide_true, decide_false, Nat.reduceEqDiff, Nat.reduceLT, reduceIte, cond_true, cond_false, List.map_cons, List.map_nil, Nat.reduceAdd, d0, d1, d2, d3, d4, d5, d6, hgd, hgd1, sixV_sv]))
                  | (apply Ok.condF; case e => (simp (disch := omega) only [evs, evt, Int.reduceToNat, Int.reduceEq, Int.reduceLT, Int.reduceLE, decide_true, decide_false, Nat.reduceEqDiff, Nat.reduceLT, reduceIte, cond_true, cond_false, List.map_cons, List.map_nil, Nat.reduceAdd, d0, d1, d2, d3, d4, d5, d6, hgd, hgd1, sixV_sv]))
                  | ((first | apply Ops.nil | apply Drs.nil | apply Ok.skip | apply Ok.exit | apply Ok.ret); try simp only [Then_n, Then_e, Then_r, Out_n, Out_e, Out_r, Nat.reduceEqDiff, reduceIte])
                  | (apply Ok.drs (S := Sp) hmix)
                  )
                refine (lp good _ ?_ ?_ ?_ ?_).mono ?_
                · simp (disch := omega) only [evs, evt, Int.reduceToNat, Int.reduceEq, Int.reduceLT, Int.reduceLE, decide_true, decide_false, Nat.reduceEqDiff, Nat.reduceLT, reduceIte, cond_true, cond_false, List.map_cons, List.map_nil, Nat.reduceAdd]
                · simp (disch := omega) only [evs, evt, Int.reduceToNat, Int.reduceEq, Int.reduceLT, Int.reduceLE, decide_true, decide_false, Nat.reduceEqDiff, Nat.reduceLT, reduceIte, cond_true, cond_false, List.map_cons, List.map_nil, Nat.reduceAdd]
                · simp (disch := omega) only [evs, evt, Int.reduceToNat, Int.reduceEq, Int.reduceLT, Int.reduceLE, decide_true, decide_false, Nat.reduceEqDiff, Nat.reduceLT, reduceIte, cond_true, cond_false, List.map_cons, List.map_nil, Nat.reduceAdd]
                · simp (disch := omega) only [evs, evt, Int.reduceToNat, Int.reduceEq, Int.reduceLT, Int.reduceLE, decide_true, decide_false, Nat.reduceEqDiff, Nat.reduceLT, reduceIte, cond_true, cond_false, List.map_cons, List.map_nil, Nat.reduceAdd]
                rintro x t' h' ⟨rfl, rfl, g5, g6⟩
                simp only [Then_n, Then_e, Then_r, Out_n, Out_e, Out_r, Nat.reduceEqDiff, reduceIte]
                repeat (first
                  | ((first | apply Ops.op | apply Ops.op0 | apply Drs.bar | apply Drs.pure); case e => (intro k; simp (disch := omega) only [evs, evt, Int.reduceToNat, Int.reduceEq, Int.reduceLT, Int.reduceLE, decide_true, decide_false, Nat.reduceEqDiff, Nat.reduceLT, reduceIte, cond_true, cond_false, List.map_cons, List.map_nil, Nat.reduceAdd, g5, g6]; rfl))
                  | ((first | apply Ops.g1 | apply Drs.g1); case e => (simp (disch := omega) only [evs, evt, Int.reduceToNat, Int.reduceEq, Int.reduceLT, Int.reduceLE, decide_true, decide_false, Nat.reduceEqDiff, Nat.reduceLT, reduceIte, cond_true, cond_false, List.map_cons, List.map_nil, Nat.reduceAdd, g5, g6]))
                  | ((first | apply Ops.g0t | apply Ops.g0f | apply Drs.g0t | apply Drs.g0f); case e => (simp (disch := omega) only [evs, evt, Int.reduceToNat, Int.reduceEq, Int.reduceLT, Int.reduceLE, decide_true, decide_false, Nat.reduceEqDiff, Nat.reduceLT, reduceIte, cond_true, cond_false, List.map_cons, List.map_nil, Nat.reduceAdd, g5, g6]))
                  | ((first | apply Ops.g0u | apply Drs.g0u); case e => (simp (disch := omega) only [evs, evt, Int.reduceToNat, Int.reduceEq, Int.reduceLT, Int.reduceLE, decide_true, decide_false, Nat.reduceEqDiff, Nat.reduceLT, reduceIte, cond_true, cond_false, List.map_cons, List.map_nil, Nat.reduceAdd, g5, g6]))
                  | apply Ok.seq
                  | apply Ok.block
                  | (apply Ok.ops (S := Sp))
                  | (apply Ok.condT; case e => (simp (disch := omega) only [evs, evt, Int.reduceToNat, Int.reduceEq, Int.reduceLT, Int.reduceLE, decide_true, decide_false, Nat.reduceEqDiff, Nat.reduceLT, reduceIte, cond_true, cond_false, List.map_cons, List.map_nil, Nat.reduceAdd, g5, g6]))
                  | (apply Ok.condF; case e => (simp (disch := omega) only [evs, evt, Int.reduceToNat, Int.reduceEq, Int.reduceLT, Int.reduceLE, decide_true, decide_false, Nat.reduceEqDiff, Nat.reduceLT, reduceIte, cond_true, cond_false, List.map_cons, List.map_nil, Nat.reduceAdd, g5, g6]))
                  | ((first | apply Ops.nil | apply Drs.nil | apply Ok.skip | apply Ok.exit | apply Ok.ret); try simp only [Then_n, Then_e, Then_r, Out_n, Out_e, Out_r, Nat.reduceEqDiff, reduceIte])
                  | (apply Ok.drs (S := Sp) hmix)
                  )
                refine ⟨_, fun k => res_3 _ _ _ _ _ k, ?_⟩
                simp (disch := omega) only [evs, evt, Int.reduceToNat, Int.reduceEq, Int.reduceLT, Int.reduceLE, decide_true, decide_false, Nat.reduceEqDiff, Nat.reduceLT, reduceIte, cond_true, cond_false, List.map_cons, List.map_nil, Nat.reduceAdd, one_3]
                exact ⟨right good, by trivial⟩
            | false =>
              have e5 := of_decide_eq_false d5
              have good : ¬ badD (r.take w.toNat) := fun hb => by rcases (hbad ()).1 hb with h1 | h1 <;> omega
              repeat (first
                | ((first | apply Ops.op | apply Ops.op0 | apply Drs.bar | apply Drs.pure); case e => (intro k; simp (disch := omega) only [evs, evt, Int.reduceToNat, Int.reduceEq, Int.reduceLT, Int.reduceLE, decide_true, decide_false, Nat.reduceEqDiff, Nat.reduceLT, reduceIte, cond_true, cond_false, List.map_cons, List.map_nil, Nat.reduceAdd, d0, d1, d2, d3, d4, d5, hgd, hgd1, sixV_sv]; rfl))
                | ((first | apply Ops.g1 | apply Drs.g1); case e => (simp (disch := omega) only [evs, evt, Int.reduceToNat, Int.reduceEq, Int.reduceLT, Int.reduceLE, decide_true, decide_false, Nat.reduceEqDiff, Nat.reduceLT, reduceIte, cond_true, cond_false, List.map_cons, List.map_nil, Nat.reduceAdd, d0, d1, d2, d3, d4, d5, hgd, hgd1, sixV_sv]))
                | ((first | apply Ops.g0t | apply Ops.g0f | apply Drs.g0t | apply Drs.g0f); case e => (simp (disch := omega) only [evs, evt, Int.reduceToNat, Int.reduceEq, Int.reduceLT, Int.reduceLE, decide_true, decide_false, Nat.reduceEqDiff, Nat.reduceLT, reduceIte, cond_true, cond_false, List.map_cons, List.map_nil, Nat.reduceAdd, d0, d1, d2, d3, d4, d5, hgd, hgd1, sixV_sv]))
                | ((first | apply Ops.g0u | apply Drs.g0u); case e => (simp (disch := omega) only [evs, evt, Int.reduceToNat, Int.reduceEq, Int.reduceLT, Int.reduceLE, decide_true, decide_false, Nat.reduceEqDiff, Nat.reduceLT, reduceIte, cond_true, cond_false, List.map_cons, List.map_nil, Nat.reduceAdd, d0, d1, d2, d3, d4, d5, hgd, hgd1, sixV_sv]))
                | apply Ok.seq
                | apply Ok.block
                | (apply Ok.ops (S := Sp))
                | (apply Ok.condT; case e => (simp (disch := omega) only [evs, evt, Int.reduceToNat, Int.reduceEq, Int.reduceLT, Int.reduceLE, decide_true, decide_false, Nat.reduceEqDiff, Nat.reduceLT, reduceIte, cond_true, cond_false, List.map_cons, List.map_nil, Nat.reduceAdd, d0, d1, d2, d3, d4, d5, hgd, hgd1, sixV_sv]))
                | (apply Ok.condF; case e => (simp (disch := omega) only [evs, evt, Int.reduceToNat, Int.reduceEq, Int.reduceLT, Int.reduceLE, decide_true, decide_false, Nat.reduceEqDiff, Nat.reduceLT, reduceIte, cond_true, cond_false, List.map_cons, List.map_nil, Nat.reduceAdd, d0, d1, d2, d3, d4, d5, hgd, hgd1, sixV_sv]))
                | ((first | apply Ops.nil | apply Drs.nil | apply Ok.skip | apply Ok.exit | apply Ok.ret); try simp only [Then_n, Then_e, Then_r, Out_n, Out_e, Out_r, Nat.reduceEqDiff, reduceIte])
                | (apply Ok.drs (S := Sp) hmix)
                )
              refine (lp good _ ?_ ?_ ?_ ?_).mono ?_
              · simp (disch := omega) only [evs, evt, Int.reduceToNat, Int.reduceEq, Int.reduceLT, Int.reduceLE, decide_true, decide_false, Nat.reduceEqDiff, Nat.reduceLT, reduceIte, cond_true, cond_false, List.map_cons, List.map_nil, Nat.reduceAdd]
              · simp (disch := omega) only [evs, evt, Int.reduceToNat, Int.reduceEq, Int.reduceLT, Int.reduceLE, decide_true, decide_false, Nat.reduceEqDiff, Nat.reduceLT, reduceIte, cond_true, cond_false, List.map_cons, List.map_nil, Nat.reduceAdd]
              · simp (disch := omega) only [evs, evt, Int.reduceToNat, Int.reduceEq, Int.reduceLT, Int.reduceLE, decide_true, decide_false, Nat.reduceEqDiff, Nat.reduceLT, reduceIte, cond_true, cond_false, List.map_cons, List.map_nil, Nat.reduceAdd]
              · simp (disch := omega) only [evs, evt, Int.reduceToNat, Int.reduceEq, Int.reduceLT, Int.reduceLE, decide_true, decide_false, Nat.reduceEqDiff, Nat.reduceLT, reduceIte, cond_true, cond_false, List.map_cons, List.map_nil, Nat.reduceAdd]
              rintro x t' h' ⟨rfl, rfl, g5, g6⟩
              simp only [Then_n, Then_e, Then_r, Out_n, Out_e, Out_r, Nat.reduceEqDiff, reduceIte]
              repeat (first
                | ((first | apply Ops.op | apply Ops.op0 | apply Drs.bar | apply Drs.pure); case e => (intro k; simp (disch := omega) only [evs, evt, Int.reduceToNat, Int.reduceEq, Int.reduceLT, Int.reduceLE, decide_true, decide_false, Nat.reduceEqDiff, Nat.reduceLT, reduceIte, cond_true, cond_false, List.map_cons, List.map_nil, Nat.reduceAdd, g5, g6]; rfl))
                | ((first | apply Ops.g1 | apply Drs.g1); case e => (simp (disch := omega) only [evs, evt, Int.reduceToNat, Int.reduceEq, Int.reduceLT, Int.reduceLE, decide_true, decide_false, Nat.reduceEqDiff, Nat.reduceLT, reduceIte, cond_true, cond_false, List.map_cons, List.map_nil, Nat.reduceAdd, g5, g6]))
                | ((first | apply Ops.g0t | apply Ops.g0f | apply Drs.g0t | apply Drs.g0f); case e => (simp (disch := omega) only [evs, evt, Int.reduceToNat, Int.reduceEq, Int.reduceLT, Int.reduceLE, decide_true, decide_false, Nat.reduceEqDiff, Nat.reduceLT, reduceIte, cond_true, cond_false, List.map_cons, List.map_nil, Nat.reduceAdd, g5, g6]))
                | ((first | apply Ops.g0u | apply Drs.g0u); case e => (simp (disch := omega) only [evs, evt, Int.reduceToNat, Int.reduceEq, Int.reduceLT, Int.reduceLE, decide_true, decide_false, Nat.reduceEqDiff, Nat.reduceLT, reduceIte, cond_true, cond_false, List.map_cons, List.map_nil, Nat.reduceAdd, g5, g6]))
                | apply Ok.seq
                | apply Ok.block
                | (apply Ok.ops (S := Sp))
                | (apply Ok.condT; case e => (simp (disch := omega) only [evs, evt, Int.reduceToNat, Int.reduceEq, Int.reduceLT, Int.reduceLE, decide_true, decide_false, Nat.reduceEqDiff, Nat.reduceLT, reduceIte, cond_true, cond_false, List.map_cons, List.map_nil, Nat.reduceAdd, g5, g6]))
                | (apply Ok.condF; case e => (simp (disch := omega) only [evs, evt, Int.reduceToNat, Int.reduceEq, Int.reduceLT, Int.reduceLE, decide_true, decide_false, Nat.reduceEqDiff, Nat.reduceLT, reduceIte, cond_true, cond_false, List.map_cons, List.map_nil, Nat.reduceAdd, g5, g6]))
                | ((first | apply Ops.nil | apply Drs.nil | apply Ok.skip | apply Ok.exit | apply Ok.ret); try simp only [Then_n, Then_e, Then_r, Out_n, Out_e, Out_r, Nat.reduceEqDiff, reduceIte])
                | (apply Ok.drs (S := Sp) hmix)
                )
              refine ⟨_, fun k => res_3 _ _ _ _ _ k, ?_⟩
              simp (disch := omega) only [evs, evt, Int.reduceToNat, Int.reduceEq, Int.reduceLT, Int.reduceLE, decide_true, decide_false, Nat.reduceEqDiff, Nat.reduceLT, reduceIte, cond_true, cond_false, List.map_cons, List.map_nil, Nat.reduceAdd, one_3]
              exact ⟨right good, by trivial⟩
        | false =>
          have e3 := of_decide_eq_false d3
          have d5 : decide ((w.toNat : Int) = 8) = false := decide_eq_false (by omega)
          have good : ¬ badD (r.take w.toNat) := fun hb => by rcases (hbad ()).1 hb with h1 | h1 <;> omega
          repeat (first
            | ((first | apply Ops.op | apply Ops.op0 | apply Drs.bar | apply Drs.pure); case e => (intro k; simp (disch := omega) only [evs, evt, Int.reduceToNat, Int.reduceEq, Int.reduceLT, Int.reduceLE, decide_true, decide_false, Nat.reduceEqDiff, Nat.reduceLT, reduceIte, cond_true, cond_false, List.map_cons, List.map_nil, Nat.reduceAdd, d0, d1, d2, d3, d5, hgd, hgd1, sixV_sv]; rfl))
            | ((first | apply Ops.g1 | apply Drs.g1); case e => (simp (disch := omega) only [evs, evt, Int.reduceToNat, Int.reduceEq, Int.reduceLT, Int.reduceLE, decide_true, decide_false, Nat.reduceEqDiff, Nat.reduceLT, reduceIte, cond_true, cond_false, List.map_cons, List.map_nil, Nat.reduceAdd, d0, d1, d2, d3, d5, hgd, hgd1, sixV_sv]))
            | ((first | apply Ops.g0t | apply Ops.g0f | apply Drs.g0t | apply Drs.g0f); case e => (simp (disch := omega) only [evs, evt, Int.reduceToNat, Int.reduceEq, Int.reduceLT, Int.reduceLE, decide_true, decide_false, Nat.reduceEqDiff, Nat.reduceLT, reduceIte, cond_true, cond_false, List.map_cons, List.map_nil, Nat.reduceAdd, d0, d1, d2, d3, d5, hgd, hgd1, sixV_sv]))
            | ((first | apply Ops.g0u | apply Drs.g0u); case e => (simp (disch := omega) only [evs, evt, Int.reduceToNat, Int.reduceEq, Int.reduceLT, Int.reduceLE, decide_true, decide_false, Nat.reduceEqDiff, Nat.reduceLT, reduceIte, cond_true, cond_false, List.map_cons, List.map_nil, Nat.reduceAdd, d0, d1, d2, d3, d5, hgd, hgd1, sixV_sv]))
            | apply Ok.seq
            | apply Ok.block
            | (apply Ok.ops (S := Sp))
            | (apply Ok.condT; case e => (simp (disch := omega) only [evs, evt, Int.reduceToNat, Int.reduceEq, Int.reduceLT, Int.reduceLE, decide_true, decide_false, Nat.reduceEqDiff, Nat.reduceLT, reduceIte, cond_true, cond_false, List.map_cons, List.map_nil, Nat.reduceAdd, d0, d1, d2, d3, d5, hgd, hgd1, sixV_sv]))
            | (apply Ok.condF; case e => (simp (disch := omega) only [evs, evt, Int.reduceToNat, Int.reduceEq, Int.reduceLT, Int.reduceLE, decide_true, decide_false, Nat.reduceEqDiff, Nat.reduceLT, reduceIte, cond_true, cond_false, List.map_cons, List.map_nil, Nat.reduceAdd, d0, d1, d2, d3, d5, hgd, hgd1, sixV_sv]))
            | ((first | apply Ops.nil | apply Drs.nil | apply Ok.skip | apply Ok.exit | apply Ok.ret); try simp only [Then_n, Then_e, Then_r, Out_n, Out_e, Out_r, Nat.reduceEqDiff, reduceIte])
            | (apply Ok.drs (S := Sp) hmix)
            )
          refine (lp good _ ?_ ?_ ?_ ?_).mono ?_
          · simp (disch := omega) only [evs, evt, Int.reduceToNat, Int.reduceEq, Int.reduceLT, Int.reduceLE, decide_true, decide_false, Nat.reduceEqDiff, Nat.reduceLT, reduceIte, cond_true, cond_false, List.map_cons, List.map_nil, Nat.reduceAdd]
          · simp (disch := omega) only [evs, evt, Int.reduceToNat, Int.reduceEq, Int.reduceLT, Int.reduceLE, decide_true, decide_false, Nat.reduceEqDiff, Nat.reduceLT, reduceIte, cond_true, cond_false, List.map_cons, List.map_nil, Nat.reduceAdd]
          · simp (disch := omega) only [evs, evt, Int.reduceToNat, Int.reduceEq, Int.reduceLT, Int.reduceLE, decide_true, decide_false, Nat.reduceEqDiff, Nat.reduceLT, reduceIte, cond_true, cond_false, List.map_cons, List.map_nil, Nat.reduceAdd]
          · simp (disch := omega) only [evs, evt, Int.reduceToNat, Int.reduceEq, Int.reduceLT, Int.reduceLE, decide_true, decide_false, Nat.reduceEqDiff, Nat.reduceLT, reduceIte, cond_true, cond_false, List.map_cons, List.map_nil, Nat.reduceAdd]
          rintro x t' h' ⟨rfl, rfl, g5, g6⟩
          simp only [Then_n, Then_e, Then_r, Out_n, Out_e, Out_r, Nat.reduceEqDiff, reduceIte]
          repeat (first
            | ((first | apply Ops.op | apply Ops.op0 | apply Drs.bar | apply Drs.pure); case e => (intro k; simp (disch := omega) only [evs, evt, Int.reduceToNat, Int.reduceEq, Int.reduceLT, Int.reduceLE, decide_true, decide_false, Nat.reduceEqDiff, Nat.reduceLT, reduceIte, cond_true, cond_false, List.map_cons, List.map_nil, Nat.reduceAdd, g5, g6]; rfl))
            | ((first | apply Ops.g1 | apply Drs.g1); case e => (simp (disch := omega) only [evs, evt, Int.reduceToNat, Int.reduceEq, Int.reduceLT, Int.reduceLE, decide_true, decide_false, Nat.reduceEqDiff, Nat.reduceLT, reduceIte, cond_true, cond_false, List.map_cons, List.map_nil, Nat.reduceAdd, g5, g6]))
            | ((first | apply Ops.g0t | apply Ops.g0f | apply Drs.g0t | apply Drs.g0f); case e => (simp (disch := omega) only [evs, evt, Int.reduceToNat, Int.reduceEq, Int.reduceLT, Int.reduceLE, decide_true, decide_false, Nat.reduceEqDiff, Nat.reduceLT, reduceIte, cond_true, cond_false, List.map_cons, List.map_nil, Nat.reduceAdd, g5, g6]))
            | ((first | apply Ops.g0u | apply Drs.g0u); case e => (simp (disch := omega) only [evs, evt, Int.reduceToNat, Int.reduceEq, Int.reduceLT, Int.reduceLE, decide_true, decide_false, Nat.reduceEqDiff, Nat.reduceLT, reduceIte, cond_true, cond_false, List.map_cons, List.map_nil, Nat.reduceAdd, g5, g6]))
            | apply Ok.seq
            | apply Ok.block
            | (apply Ok.ops (S := Sp))
            | (apply Ok.condT; case e => (simp (disch := omega) only [evs, evt, Int.reduceToNat, Int.reduceEq, Int.reduceLT, Int.reduceLE, decide_true, decide_false, Nat.reduceEqDiff, Nat.reduceLT, reduceIte, cond_true, cond_false, List.map_cons, List.map_nil, Nat.reduceAdd, g5, g6]))
            | (apply Ok.condF; case e => (simp (disch := omega) only [evs, evt, Int.reduceToNat, Int.reduceEq, Int.reduceLT, Int.reduceLE, decide_true, decide_false, Nat.reduceEqDiff, Nat.reduceLT, reduceIte, cond_true, cond_false, List.map_cons, List.map_nil, Nat.reduceAdd, g5, g6]))
            | ((first | apply Ops.nil | apply Drs.nil | apply Ok.skip | apply Ok.exit | apply Ok.ret); try simp only [Then_n, Then_e, Then_r, Out_n, Out_e, Out_r, Nat.reduceEqDiff, reduceIte])
            | (apply Ok.drs (S := Sp) hmix)
            )
          refine ⟨_, fun k => res_3 _ _ _ _ _ k, ?_⟩
          simp (disch := omega) only [evs, evt, Int.reduceToNat, Int.reduceEq, Int.reduceLT, Int.reduceLE, decide_true, decide_false, Nat.reduceEqDiff, Nat.reduceLT, reduceIte, cond_true, cond_false, List.map_cons, List.map_nil, Nat.reduceAdd, one_3]
          exact ⟨right good, by trivial⟩

theorem rtakeText_ok {h : H} {l : List UInt8} (hl : l.length ≤ 1000000) : FnOk Try.prog 47 [sv l] h fun y h' => y = triT (takeT l) ∧ h' = h := by
  refine fn_run c47 (by intro hb; cases hb) (by simp) (by simp) ?_
  simp only [slotsF, Nat.reduceAdd]
  unfold b47
  obtain ⟨S1, hS1⟩ : ∃ S : Ev.Spec, S = fun f vs hh y h' => ∀ p, vs = [sv p] → y = tri (takeN p) ∧ h' = hh := ⟨_, rfl⟩
  repeat (first
    | ((first | apply Ops.op | apply Ops.op0 | apply Drs.bar | apply Drs.pure); case e => (intro k; simp (disch := omega) only [evs, evt, Int.reduceToNat, Int.reduceEq, Int.reduceLT, Int.reduceLE, decide_true, decide_false, Nat.reduceEqDiff, Nat.reduceLT, reduceIte, cond_true, cond_false, List.map_cons, List.map_nil, Nat.reduceAdd]; rfl))
    | ((first | apply Ops.g1 | apply Drs.g1); case e => (simp (disch := omega) only [evs, evt, Int.reduceToNat, Int.reduceEq, Int.reduceLT, Int.reduceLE, decide_true, decide_false, Nat.reduceEqDiff, Nat.reduceLT, reduceIte, cond_true, cond_false, List.map_cons, List.map_nil, Nat.reduceAdd]))
    | ((first | apply Ops.g0t | apply Ops.g0f | apply Drs.g0t | apply Drs.g0f); case e => (simp (disch := omega) only [evs, evt, Int.reduceToNat, Int.reduceEq, Int.reduceLT, Int.reduceLE, decide_true, decide_false, Nat.reduceEqDiff, Nat.reduceLT, reduceIte, cond_true, cond_false, List.map_cons, List.map_nil, Nat.reduceAdd]))
    | ((first | apply Ops.g0u | apply Drs.g0u); case e => (simp (disch := omega) only [evs, evt, Int.reduceToNat, Int.reduceEq, Int.reduceLT, Int.reduceLE, decide_true, decide_false, Nat.reduceEqDiff, Nat.reduceLT, reduceIte, cond_true, cond_false, List.map_cons, List.map_nil, Nat.reduceAdd]))
    | apply Ok.seq
    | apply Ok.block
    | (apply Ok.ops (S := S1))
    | (apply Ok.condT; case e => (simp (disch := omega) only [evs, evt, Int.reduceToNat, Int.reduceEq, Int.reduceLT, Int.reduceLE, decide_true, decide_false, Nat.reduceEqDiff, Nat.reduceLT, reduceIte, cond_true, cond_false, List.map_cons, List.map_nil, Nat.reduceAdd]))
    | (apply Ok.condF; case e => (simp (disch := omega) only [evs, evt, Int.reduceToNat, Int.reduceEq, Int.reduceLT, Int.reduceLE, decide_true, decide_false, Nat.reduceEqDiff, Nat.reduceLT, reduceIte, cond_true, cond_false, List.map_cons, List.map_nil, Nat.reduceAdd]))
    | ((first | apply Ops.nil | apply Drs.nil | apply Ok.skip | apply Ok.exit | apply Ok.ret); try simp only [Then_n, Then_e, Then_r, Out_n, Out_e, Out_r, Nat.reduceEqDiff, reduceIte])
    | (apply Ok.drs (S := S1) hmix)
    )
  apply Ops.call
  case e => (simp (disch := omega) only [evs, evt, Int.reduceToNat, Int.reduceEq, Int.reduceLT, Int.reduceLE, decide_true, decide_false, Nat.reduceEqDiff, Nat.reduceLT, reduceIte, cond_true, cond_false, List.map_cons, List.map_nil, Nat.reduceAdd]; rfl)
  case hf => rw [hS1]; exact (rtakeNum_ok hl).mono fun y h' hk p' e => by have := sv_inj (List.cons.inj e).1; subst this; exact hk
  case k =>
  intro y h2 hy
  rw [hS1] at hy
  obtain ⟨rfl, rfl⟩ := hy _ rfl
  rcases takeN_range l with (hc | hc) | ⟨n, k, hc, h1, h2, h3, h4⟩
  · rw [hc]
    unfold tri
    repeat (first
      | ((first | apply Ops.op | apply Ops.op0 | apply Drs.bar | apply Drs.pure); case e => (intro k; simp (disch := omega) only [evs, evt, Int.reduceToNat, Int.reduceEq, Int.reduceLT, Int.reduceLE, decide_true, decide_false, Nat.reduceEqDiff, Nat.reduceLT, reduceIte, cond_true, cond_false, List.map_cons, List.map_nil, Nat.reduceAdd]; rfl))
      | ((first | apply Ops.g1 | apply Drs.g1); case e => (simp (disch := omega) only [evs, evt, Int.reduceToNat, Int.reduceEq, Int.reduceLT, Int.reduceLE, decide_true, decide_false, Nat.reduceEqDiff, Nat.reduceLT, reduceIte, cond_true, cond_false, List.map_cons, List.map_nil, Nat.reduceAdd]))
      | ((first | apply Ops.g0t | apply Ops.g0f | apply Drs.g0t | apply Drs.g0f); case e => (simp (disch := omega) only [evs, evt, Int.reduceToNat, Int.reduceEq, Int.reduceLT, Int.reduceLE, decide_true, decide_false, Nat.reduceEqDiff, Nat.reduceLT, reduceIte, cond_true, cond_false, List.map_cons, List.map_nil, Nat.reduceAdd]))
      | ((first | apply Ops.g0u | apply Drs.g0u); case e => (simp (disch := omega) only [evs, evt, Int.reduceToNat, Int.reduceEq, Int.reduceLT, Int.reduceLE, decide_true, decide_false, Nat.reduceEqDiff, Nat.reduceLT, reduceIte, cond_true, cond_false, List.map_cons, List.map_nil, Nat.reduceAdd]))
      | apply Ok.seq
      | apply Ok.block
      | (apply Ok.ops (S := Sp))
      | (apply Ok.condT; case e => (simp (disch := omega) only [evs, evt, Int.reduceToNat, Int.reduceEq, Int.reduceLT, Int.reduceLE, decide_true, decide_false, Nat.reduceEqDiff, Nat.reduceLT, reduceIte, cond_true, cond_false, List.map_cons, List.map_nil, Nat.reduceAdd]))
      | (apply Ok.condF; case e => (simp (disch := omega) only [evs, evt, Int.reduceToNat, Int.reduceEq, Int.reduceLT, Int.reduceLE, decide_true, decide_false, Nat.reduceEqDiff, Nat.reduceLT, reduceIte, cond_true, cond_false, List.map_cons, List.map_nil, Nat.reduceAdd]))
      | ((first | apply Ops.nil | apply Drs.nil | apply Ok.skip | apply Ok.exit | apply Ok.ret); try simp only [Then_n, Then_e, Then_r, Out_n, Out_e, Out_r, Nat.reduceEqDiff, reduceIte])
      | (apply Ok.drs (S := Sp) hmix)
      )
    refine ⟨_, fun k => res_3 _ _ _ _ _ k, ?_⟩
    simp (disch := omega) only [evs, evt, Int.reduceToNat, Int.reduceEq, Int.reduceLT, Int.reduceLE, decide_true, decide_false, Nat.reduceEqDiff, Nat.reduceLT, reduceIte, cond_true, cond_false, List.map_cons, List.map_nil, Nat.reduceAdd, one_3]
    exact ⟨by unfold takeT; rw [hc]; rfl, by trivial⟩
  · rw [hc]
    unfold tri
    repeat (first
      | ((first | apply Ops.op | apply Ops.op0 | apply Drs.bar | apply Drs.pure); case e => (intro k; simp (disch := omega) only [evs, evt, Int.reduceToNat, Int.reduceEq, Int.reduceLT, Int.reduceLE, decide_true, decide_false, Nat.reduceEqDiff, Nat.reduceLT, reduceIte, cond_true, cond_false, List.map_cons, List.map_nil, Nat.reduceAdd]; rfl))
      | ((first | apply Ops.g1 | apply Drs.g1); case e => (simp (disch := omega) only [evs, evt, Int.reduceToNat, Int.reduceEq, Int.reduceLT, Int.reduceLE, decide_true, decide_false, Nat.reduceEqDiff, Nat.reduceLT, reduceIte, cond_true, cond_false, List.map_cons, List.map_nil, Nat.reduceAdd]))
      | ((first | apply Ops.g0t | apply Ops.g0f | apply Drs.g0t | apply Drs.g0f); case e => (simp (disch := omega) only [evs, evt, Int.reduceToNat, Int.reduceEq, Int.reduceLT, Int.reduceLE, decide_true, decide_false, Nat.reduceEqDiff, Nat.reduceLT, reduceIte, cond_true, cond_false, List.map_cons, List.map_nil, Nat.reduceAdd]))
      | ((first | apply Ops.g0u | apply Drs.g0u); case e => (simp (disch := omega) only [evs, evt, Int.reduceToNat, Int.reduceEq, Int.reduceLT, Int.reduceLE, decide_true, decide_false, Nat.reduceEqDiff, Nat.reduceLT, reduceIte, cond_true, cond_false, List.map_cons, List.map_nil, Nat.reduceAdd]))
      | apply Ok.seq
      | apply Ok.block
      | (apply Ok.ops (S := Sp))
      | (apply Ok.condT; case e => (simp (disch := omega) only [evs, evt, Int.reduceToNat, Int.reduceEq, Int.reduceLT, Int.reduceLE, decide_true, decide_false, Nat.reduceEqDiff, Nat.reduceLT, reduceIte, cond_true, cond_false, List.map_cons, List.map_nil, Nat.reduceAdd]))
      | (apply Ok.condF; case e => (simp (disch := omega) only [evs, evt, Int.reduceToNat, Int.reduceEq, Int.reduceLT, Int.reduceLE, decide_true, decide_false, Nat.reduceEqDiff, Nat.reduceLT, reduceIte, cond_true, cond_false, List.map_cons, List.map_nil, Nat.reduceAdd]))
      | ((first | apply Ops.nil | apply Drs.nil | apply Ok.skip | apply Ok.exit | apply Ok.ret); try simp only [Then_n, Then_e, Then_r, Out_n, Out_e, Out_r, Nat.reduceEqDiff, reduceIte])
      | (apply Ok.drs (S := Sp) hmix)
      )
    refine ⟨_, fun k => res_3 _ _ _ _ _ k, ?_⟩
    simp (disch := omega) only [evs, evt, Int.reduceToNat, Int.reduceEq, Int.reduceLT, Int.reduceLE, decide_true, decide_false, Nat.reduceEqDiff, Nat.reduceLT, reduceIte, cond_true, cond_false, List.map_cons, List.map_nil, Nat.reduceAdd, one_3]
    exact ⟨by unfold takeT; rw [hc]; rfl, by trivial⟩
  · rw [hc]
    unfold tri
    have hdl : (l.drop k).length = l.length - k := List.length_drop
    have dz : decide ((0 : Int) = 0) = true := rfl
    cases d1 : decide ((l.length : Int) - (k : Int) < (n : Int)) with
    | true =>
      have e1 := of_decide_eq_true d1
      repeat (first
        | ((first | apply Ops.op | apply Ops.op0 | apply Drs.bar | apply Drs.pure); case e => (intro k; simp (disch := omega) only [evs, evt, Int.reduceToNat, Int.reduceEq, Int.reduceLT, Int.reduceLE, decide_true, decide_false, Nat.reduceEqDiff, Nat.reduceLT, reduceIte, cond_true, cond_false, List.map_cons, List.map_nil, Nat.reduceAdd, dz, d1]; rfl))
        | ((first | apply Ops.g1 | apply Drs.g1); case e => (simp (disch := omega) only [evs, evt, Int.reduceToNat, Int.reduceEq, Int.reduceLT, Int.reduceLE, decide_true, decide_false, Nat.reduceEqDiff, Nat.reduceLT, reduceIte, cond_true, cond_false, List.map_cons, List.map_nil, Nat.reduceAdd, dz, d1]))
        | ((first | apply Ops.g0t | apply Ops.g0f | apply Drs.g0t | apply Drs.g0f); case e => (simp (disch := omega) only [evs, evt, Int.reduceToNat, Int.reduceEq, Int.reduceLT, Int.reduceLE, decide_true, decide_false, Nat.reduceEqDiff, Nat.reduceLT, reduceIte, cond_true, cond_false, List.map_cons, List.map_nil, Nat.reduceAdd, dz, d1]))
        | ((first | apply Ops.g0u | apply Drs.g0u); case e => (simp (disch := omega) only [evs, evt, Int.reduceToNat, Int.reduceEq, Int.reduceLT, Int.reduceLE, decide_true, decide_false, Nat.reduceEqDiff, Nat.reduceLT, reduceIte, cond_true, cond_false, List.map_cons, List.map_nil, Nat.reduceAdd, dz, d1]))
        | apply Ok.seq
        | apply Ok.block
        | (apply Ok.ops (S := Sp))
        | (apply Ok.condT; case e => (simp (disch := omega) only [evs, evt, Int.reduceToNat, Int.reduceEq, Int.reduceLT, Int.reduceLE, decide_true, decide_false, Nat.reduceEqDiff, Nat.reduceLT, reduceIte, cond_true, cond_false, List.map_cons, List.map_nil, Nat.reduceAdd, dz, d1]))
        | (apply Ok.condF; case e => (simp (disch := omega) only [evs, evt, Int.reduceToNat, Int.reduceEq, Int.reduceLT, Int.reduceLE, decide_true, decide_false, Nat.reduceEqDiff, Nat.reduceLT, reduceIte, cond_true, cond_false, List.map_cons, List.map_nil, Nat.reduceAdd, dz, d1]))
        | ((first | apply Ops.nil | apply Drs.nil | apply Ok.skip | apply Ok.exit | apply Ok.ret); try simp only [Then_n, Then_e, Then_r, Out_n, Out_e, Out_r, Nat.reduceEqDiff, reduceIte])
        | (apply Ok.drs (S := Sp) hmix)
        )
      refine ⟨_, fun k => res_3 _ _ _ _ _ k, ?_⟩
      simp (disch := omega) only [evs, evt, Int.reduceToNat, Int.reduceEq, Int.reduceLT, Int.reduceLE, decide_true, decide_false, Nat.reduceEqDiff, Nat.reduceLT, reduceIte, cond_true, cond_false, List.map_cons, List.map_nil, Nat.reduceAdd, one_3]
      refine ⟨?_, by trivial⟩
      unfold takeT
      rw [hc]
      simp only [if_true, Int.toNat_natCast]
      rw [if_pos (by omega)]; rfl
    | false =>
      have e1 := of_decide_eq_false d1
      have esl : (l.take ((k : Int) + (n : Int)).toNat).drop k = (l.drop k).take n := by
        rw [show ((k : Int) + (n : Int)).toNat = k + n by omega, List.drop_take, Nat.add_sub_cancel_left]
      repeat (first
        | ((first | apply Ops.op | apply Ops.op0 | apply Drs.bar | apply Drs.pure); case e => (intro k; simp (disch := omega) only [evs, evt, Int.reduceToNat, Int.reduceEq, Int.reduceLT, Int.reduceLE, decide_true, decide_false, Nat.reduceEqDiff, Nat.reduceLT, reduceIte, cond_true, cond_false, List.map_cons, List.map_nil, Nat.reduceAdd, dz, d1, ssV_sv, esl]; rfl))
        | ((first | apply Ops.g1 | apply Drs.g1); case e => (simp (disch := omega) only [evs, evt, Int.reduceToNat, Int.reduceEq, Int.reduceLT, Int.reduceLE, decide_true, decide_false, Nat.reduceEqDiff, Nat.reduceLT, reduceIte, cond_true, cond_false, List.map_cons, List.map_nil, Nat.reduceAdd, dz, d1, ssV_sv, esl]))
        | ((first | apply Ops.g0t | apply Ops.g0f | apply Drs.g0t | apply Drs.g0f); case e => (simp (disch := omega) only [evs, evt, Int.reduceToNat, Int.reduceEq, Int.reduceLT, Int.reduceLE, decide_true, decide_false, Nat.reduceEqDiff, Nat.reduceLT, reduceIte, cond_true, cond_false, List.map_cons, List.map_nil, Nat.reduceAdd, dz, d1, ssV_sv, esl]))
        | ((first | apply Ops.g0u | apply Drs.g0u); case e => (simp (disch := omega) only [evs, evt, Int.reduceToNat, Int.reduceEq, Int.reduceLT, Int.reduceLE, decide_true, decide_false, Nat.reduceEqDiff, Nat.reduceLT, reduceIte, cond_true, cond_false, List.map_cons, List.map_nil, Nat.reduceAdd, dz, d1, ssV_sv, esl]))
        | apply Ok.seq
        | apply Ok.block
        | (apply Ok.ops (S := Sp))
        | (apply Ok.condT; case e => (simp (disch := omega) only [evs, evt, Int.reduceToNat, Int.reduceEq, Int.reduceLT, Int.reduceLE, decide_true, decide_false, Nat.reduceEqDiff, Nat.reduceLT, reduceIte, cond_true, cond_false, List.map_cons, List.map_nil, Nat.reduceAdd, dz, d1, ssV_sv, esl]))
        | (apply Ok.condF; case e => (simp (disch := omega) only [evs, evt, Int.reduceToNat, Int.reduceEq, Int.reduceLT, Int.reduceLE, decide_true, decide_false, Nat.reduceEqDiff, Nat.reduceLT, reduceIte, cond_true, cond_false, List.map_cons, List.map_nil, Nat.reduceAdd, dz, d1, ssV_sv, esl]))
        | ((first | apply Ops.nil | apply Drs.nil | apply Ok.skip | apply Ok.exit | apply Ok.ret); try simp only [Then_n, Then_e, Then_r, Out_n, Out_e, Out_r, Nat.reduceEqDiff, reduceIte])
        | (apply Ok.drs (S := Sp) hmix)
        )
      refine ⟨_, fun k => res_3 _ _ _ _ _ k, ?_⟩
      simp (disch := omega) only [evs, evt, Int.reduceToNat, Int.reduceEq, Int.reduceLT, Int.reduceLE, decide_true, decide_false, Nat.reduceEqDiff, Nat.reduceLT, reduceIte, cond_true, cond_false, List.map_cons, List.map_nil, Nat.reduceAdd, one_3]
      refine ⟨?_, by trivial⟩
      unfold takeT
      rw [hc]
      simp only [if_true, Int.toNat_natCast]
      rw [if_neg (by omega)]; rfl
end Go.Proofs.Ytpnflehemjbemaa
