/- The body of the law LatticeTells returns true. No condition. -/
import Derived.Test.YtpnflehemjbemaaLat18
import Derived.Test.YtpnflehemjbemaaLat20
import Derived.Test.YtpnflehemjbemaaKnravelinlaw1
set_option maxRecDepth 100000
set_option maxHeartbeats 8000000
set_option linter.all false
namespace Go.Ev
open Go
theorem Drs.forget {P : Program} {S : Spec} {l : List CO} {t : F} {h : H} {K : F → H → Prop} (Q : F → Prop) (hq : Q t) (k : ∀ t, Q t → Drs P S l t h K) : Drs P S l t h K := k t hq
end Go.Ev
namespace Go.Proofs.Ytpnflehemjbemaa
open Go Go.Ev

theorem Mx.refl_floor' {h : H} {v : V} {M : Mt} (a : Mx h v M) : Mx (reFloor h) v M := by obtain ⟨n, f, hp⟩ := h; exact a
theorem Lst.unfloor {h h1 : H} {v : V} {xs : List V} (a : Lst h1 v xs) : Lst (unFloor h h1) v xs := by
  obtain ⟨n, f, hp⟩ := h
  obtain ⟨n1, f1, hp1⟩ := h1
  exact a
def SL (v : V) (M : Mt) (k : Nat) : Ev.Spec := fun f vs hh y h' => match f with
  | 23 => y = .b true ∧ Stay nowhere hh h'
  | 30 => y = .b true
  | 31 => ∃ w, y = .a [w] ∧ Mx h' w (chainM k) ∧ Stay nowhere hh h'
  | 32 => ∃ w, y = .a [w] ∧ Mx h' w (chainM k) ∧ Stay nowhere hh h'
  | _ => SR v M f vs hh y h'
section
variable {h : H} {v : V} {M : Mt} {k : Nat}
theorem sl_same {u w : V} {L : List Int} (hL : Il h u L) (hQ : Il h w L) (hs : L.length ≤ 1000000) : FnOk Try.prog 23 [u, w] h (SL v M k 23 [u, w] h) :=
  (same_ok hL hQ hs hs).mono fun y h' hk => by
    have e : sameB L L = true := decide_eq_true rfl
    rw [e] at hk; exact hk
theorem sl_check (hM : Mx h v M) (hs : M.length ≤ 1000000) : FnOk Try.prog 15 [.a [v]] h (SL v M k 15 [.a [v]] h) := check_ok hM hs
theorem sl_rcheck (hM : Mx h v M) (hs : M.length ≤ 1000000) (hrl : ∀ i, i < M.length → (M.getD i []).length ≤ 1000000) : FnOk Try.prog 16 [.a [v]] h (SL v M k 16 [.a [v]] h) := rcheck_ok hM hs hrl
theorem sl_levels (hM : Mx h v M) (hs : M.length ≤ 1000000) : FnOk Try.prog 17 [.a [v]] h (SL v M k 17 [.a [v]] h) := levels_ok hM hs
theorem sl_rlevels (hM : Mx h v M) (hs : M.length ≤ 1000000) (hrl : ∀ i, i < M.length → (M.getD i []).length ≤ 1000000) : FnOk Try.prog 18 [.a [v]] h (SL v M k 18 [.a [v]] h) := rlevels_ok hM hs hrl
theorem sl_dom (hM : Mx h v M) (hs : M.length ≤ 1000000) (a b : Int) : FnOk Try.prog 19 [.a [v], .i .i64 a, .i .i64 b] h (SL v M k 19 [.a [v], .i .i64 a, .i .i64 b] h) := (dom_ok hM hs a b).mono fun y h' hk a' b' e => by cases e; exact hk
theorem sl_rdom (hM : Mx h v M) (hs : M.length ≤ 1000000) (hrl : ∀ i, i < M.length → (M.getD i []).length ≤ 1000000) (a b : Int) : FnOk Try.prog 20 [.a [v], .i .i64 a, .i .i64 b] h (SL v M k 20 [.a [v], .i .i64 a, .i .i64 b] h) := (rdom_ok hM hs hrl a b).mono fun y h' hk a' b' e => by cases e; exact hk
theorem sl_above (hM : Mx h v M) (hs : M.length ≤ 1000000) (a b : Int) : FnOk Try.prog 21 [.a [v], .i .i64 a, .i .i64 b] h (SL v M k 21 [.a [v], .i .i64 a, .i .i64 b] h) := (above_ok hM hs a b).mono fun y h' hk a' b' e => by cases e; exact hk
theorem sl_rabove (hM : Mx h v M) (hs : M.length ≤ 1000000) (hrl : ∀ i, i < M.length → (M.getD i []).length ≤ 1000000) (a b : Int) : FnOk Try.prog 22 [.a [v], .i .i64 a, .i .i64 b] h (SL v M k 22 [.a [v], .i .i64 a, .i .i64 b] h) := (rabove_ok hM hs hrl a b).mono fun y h' hk a' b' e => by cases e; exact hk
theorem sl_below (hM : Mx h v M) (hs : M.length ≤ 1000000) (hf : B.val h.floor ≤ B.val h.next) (a : Int) : FnOk Try.prog 24 [.a [v], .i .i64 a] h (SL v M k 24 [.a [v], .i .i64 a] h) := (below_ok hM hs hf a).mono fun y h' hk a' e => by cases e; exact hk
theorem sl_rbelow (hM : Mx h v M) (hs : M.length ≤ 1000000) (hrl : ∀ i, i < M.length → (M.getD i []).length ≤ 1000000) (hf : B.val h.floor ≤ B.val h.next) (a : Int) : FnOk Try.prog 25 [.a [v], .i .i64 a] h (SL v M k 25 [.a [v], .i .i64 a] h) := (rbelow_ok hM hs hrl hf a).mono fun y h' hk a' e => by cases e; exact hk
theorem sl_covers (hM : Mx h v M) (hs : M.length ≤ 1000000) (hf : B.val h.floor ≤ B.val h.next) (a : Int) : FnOk Try.prog 26 [.a [v], .i .i64 a] h (SL v M k 26 [.a [v], .i .i64 a] h) := (covers_ok hM hs hf a).mono fun y h' hk a' e => by cases e; exact hk
theorem sl_rcovers (hM : Mx h v M) (hs : M.length ≤ 1000000) (hrl : ∀ i, i < M.length → (M.getD i []).length ≤ 1000000) (hf : B.val h.floor ≤ B.val h.next) (a : Int) : FnOk Try.prog 27 [.a [v], .i .i64 a] h (SL v M k 27 [.a [v], .i .i64 a] h) := (rcovers_ok hM hs hrl hf a).mono fun y h' hk a' e => by cases e; exact hk
theorem sl_order (hM : Mx h v M) (hs : M.length ≤ 1000000) (hf : B.val h.floor ≤ B.val h.next) : FnOk Try.prog 28 [.a [v]] h (SL v M k 28 [.a [v]] h) := order_ok hM hs hf
theorem sl_rorder (hM : Mx h v M) (hs : M.length ≤ 1000000) (hrl : ∀ i, i < M.length → (M.getD i []).length ≤ 1000000) (hf : B.val h.floor ≤ B.val h.next) : FnOk Try.prog 29 [.a [v]] h (SL v M k 29 [.a [v]] h) := rorder_ok hM hs hrl hf
theorem sl_join (hM : Mx h v M) (hs : M.length ≤ 1000000) (a b : Int) : FnOk Try.prog 13 [.a [v], .i .i64 a, .i .i64 b] h (SL v M k 13 [.a [v], .i .i64 a, .i .i64 b] h) := (join_ok hM hs a b).mono fun y h' hk a' b' e => by cases e; exact hk
theorem sl_rjoin (hM : Mx h v M) (hs : M.length ≤ 1000000) (hrl : ∀ i, i < M.length → (M.getD i []).length ≤ 1000000) (a b : Int) : FnOk Try.prog 14 [.a [v], .i .i64 a, .i .i64 b] h (SL v M k 14 [.a [v], .i .i64 a, .i .i64 b] h) := (rjoin_ok hM hs hrl a b).mono fun y h' hk a' b' e => by cases e; exact hk
end

theorem tells_ok {h : H} {v : V} {M : Mt} {a b n : Int} (hM : Mx h v M) (hs0 : M.length ≤ 9223372036854775807) (hn1 : -9223372036854775808 ≤ n) (hn : n ≤ 9223372036854775807) (hf : B.val h.floor ≤ B.val h.next) :
    FnOk Try.prog 3 [.a [v], .i .i64 a, .i .i64 b, .i .i64 n] h fun y h' => y = .b true := by
  have hmix := Checked.mixed Try.checked
  refine fn_run c3 (by intro hb; cases hb) (by simp) (by simp) ?_
  simp only [slotsF, Nat.reduceAdd]
  unfold b3
  obtain ⟨k, hk⟩ : ∃ k, k = (min (max n 1) 6).toNat := ⟨_, rfl⟩
  obtain ⟨Sx, hSx⟩ : ∃ S, S = SL v M k := ⟨_, rfl⟩
  repeat (first
    | ((first | apply Ops.op | apply Ops.op0 | apply Drs.bar | apply Drs.pure); case e => (intro k; simp (disch := omega) only [evs, evt, Int.reduceToNat, Int.reduceEq, Int.reduceLT, Int.reduceLE, decide_true, decide_false, Nat.reduceEqDiff, Nat.reduceLT, reduceIte, cond_true, cond_false, Nat.reduceAdd]; rfl))
    | ((first | apply Ops.g1 | apply Drs.g1); case e => (simp (disch := omega) only [evs, evt, Int.reduceToNat, Int.reduceEq, Int.reduceLT, Int.reduceLE, decide_true, decide_false, Nat.reduceEqDiff, Nat.reduceLT, reduceIte]))
    | ((first | apply Ops.g0t | apply Ops.g0f | apply Drs.g0t | apply Drs.g0f); case e => (simp (disch := omega) only [evs, evt, Int.reduceToNat, Int.reduceEq, Int.reduceLT, Int.reduceLE, decide_true, decide_false, Nat.reduceEqDiff, Nat.reduceLT, reduceIte]))
    | ((first | apply Ops.g0u | apply Drs.g0u); case e => (simp (disch := omega) only [evs, evt, Int.reduceToNat, Int.reduceEq, Int.reduceLT, Int.reduceLE, decide_true, decide_false, Nat.reduceEqDiff, Nat.reduceLT, reduceIte]))
    | apply Ok.seq
    | apply Ok.block
    | (apply Ok.ops (S := Sp))
    | (apply Ok.condT; case e => (simp (disch := omega) only [evs, evt, Int.reduceToNat, Int.reduceEq, Int.reduceLT, Int.reduceLE, decide_true, decide_false, Nat.reduceEqDiff, Nat.reduceLT, reduceIte]))
    | (apply Ok.condF; case e => (simp (disch := omega) only [evs, evt, Int.reduceToNat, Int.reduceEq, Int.reduceLT, Int.reduceLE, decide_true, decide_false, Nat.reduceEqDiff, Nat.reduceLT, reduceIte]))
    | ((first | apply Ops.nil | apply Drs.nil | apply Ok.skip | apply Ok.exit | apply Ok.ret); try simp only [Then_n, Then_e, Then_r, Out_n, Out_e, Out_r, Nat.reduceEqDiff, reduceIte])
    | (apply Ok.drs (S := Sp) hmix)
    )
  apply Ops.box1
  case e => (simp (disch := omega) only [evs, evt, Int.reduceToNat, Int.reduceEq, Int.reduceLT, Int.reduceLE, decide_true, decide_false, Nat.reduceEqDiff, Nat.reduceLT, reduceIte, cond_true, cond_false, List.map_cons, List.map_nil, Nat.reduceAdd]; rfl)
  case k =>
  intro h1 id st hlt hge hrow
  have hM1 := hM.grow st
  have hf1 := st.fl hf
  repeat (first
    | ((first | apply Ops.op | apply Ops.op0 | apply Drs.bar | apply Drs.pure); case e => (intro k; simp (disch := omega) only [evs, evt, Int.reduceToNat, Int.reduceEq, Int.reduceLT, Int.reduceLE, decide_true, decide_false, Nat.reduceEqDiff, Nat.reduceLT, reduceIte, cond_true, cond_false, Nat.reduceAdd]; rfl))
    | ((first | apply Ops.g1 | apply Drs.g1); case e => (simp (disch := omega) only [evs, evt, Int.reduceToNat, Int.reduceEq, Int.reduceLT, Int.reduceLE, decide_true, decide_false, Nat.reduceEqDiff, Nat.reduceLT, reduceIte]))
    | ((first | apply Ops.g0t | apply Ops.g0f | apply Drs.g0t | apply Drs.g0f); case e => (simp (disch := omega) only [evs, evt, Int.reduceToNat, Int.reduceEq, Int.reduceLT, Int.reduceLE, decide_true, decide_false, Nat.reduceEqDiff, Nat.reduceLT, reduceIte]))
    | ((first | apply Ops.g0u | apply Drs.g0u); case e => (simp (disch := omega) only [evs, evt, Int.reduceToNat, Int.reduceEq, Int.reduceLT, Int.reduceLE, decide_true, decide_false, Nat.reduceEqDiff, Nat.reduceLT, reduceIte]))
    | apply Ok.seq
    | apply Ok.block
    | (apply Ok.ops (S := Sx))
    | (apply Ok.condT; case e => (simp (disch := omega) only [evs, evt, Int.reduceToNat, Int.reduceEq, Int.reduceLT, Int.reduceLE, decide_true, decide_false, Nat.reduceEqDiff, Nat.reduceLT, reduceIte]))
    | (apply Ok.condF; case e => (simp (disch := omega) only [evs, evt, Int.reduceToNat, Int.reduceEq, Int.reduceLT, Int.reduceLE, decide_true, decide_false, Nat.reduceEqDiff, Nat.reduceLT, reduceIte]))
    | ((first | apply Ops.nil | apply Drs.nil | apply Ok.skip | apply Ok.exit | apply Ok.ret); try simp only [Then_n, Then_e, Then_r, Out_n, Out_e, Out_r, Nat.reduceEqDiff, reduceIte])
    | (apply Ok.drs (S := Sx) hmix)
    )
  apply Ops.call
  case e => rfl
  case hf => rw [hSx]; exact FnOk.of_pure ravelinlaw1.known_pure h1
  case k =>
  intro y h2 hy
  rw [hSx] at hy
  obtain ⟨rfl, e2⟩ := hy
  rw [e2]
  clear e2 h2
  repeat (first
    | ((first | apply Ops.op | apply Ops.op0 | apply Drs.bar | apply Drs.pure); case e => (intro k; simp (disch := omega) only [evs, evt, Int.reduceToNat, Int.reduceEq, Int.reduceLT, Int.reduceLE, decide_true, decide_false, Nat.reduceEqDiff, Nat.reduceLT, reduceIte, cond_true, cond_false, Nat.reduceAdd, hrow.rdA]; rfl))
    | ((first | apply Ops.g1 | apply Drs.g1); case e => (simp (disch := omega) only [evs, evt, Int.reduceToNat, Int.reduceEq, Int.reduceLT, Int.reduceLE, decide_true, decide_false, Nat.reduceEqDiff, Nat.reduceLT, reduceIte, hrow.rdA]))
    | ((first | apply Ops.g0t | apply Ops.g0f | apply Drs.g0t | apply Drs.g0f); case e => (simp (disch := omega) only [evs, evt, Int.reduceToNat, Int.reduceEq, Int.reduceLT, Int.reduceLE, decide_true, decide_false, Nat.reduceEqDiff, Nat.reduceLT, reduceIte, hrow.rdA]))
    | ((first | apply Ops.g0u | apply Drs.g0u); case e => (simp (disch := omega) only [evs, evt, Int.reduceToNat, Int.reduceEq, Int.reduceLT, Int.reduceLE, decide_true, decide_false, Nat.reduceEqDiff, Nat.reduceLT, reduceIte, hrow.rdA]))
    | apply Ok.seq
    | apply Ok.block
    | (apply Ok.ops (S := Sx))
    | (apply Ok.condT; case e => (simp (disch := omega) only [evs, evt, Int.reduceToNat, Int.reduceEq, Int.reduceLT, Int.reduceLE, decide_true, decide_false, Nat.reduceEqDiff, Nat.reduceLT, reduceIte, hrow.rdA]))
    | (apply Ok.condF; case e => (simp (disch := omega) only [evs, evt, Int.reduceToNat, Int.reduceEq, Int.reduceLT, Int.reduceLE, decide_true, decide_false, Nat.reduceEqDiff, Nat.reduceLT, reduceIte, hrow.rdA]))
    | ((first | apply Ops.nil | apply Drs.nil | apply Ok.skip | apply Ok.exit | apply Ok.ret); try simp only [Then_n, Then_e, Then_r, Out_n, Out_e, Out_r, Nat.reduceEqDiff, reduceIte])
    | (apply Ok.drs (S := Sx) hmix)
    )
  apply Ops.call
  case e => (simp (disch := omega) only [evs, evt, Int.reduceToNat, Int.reduceEq, Int.reduceLT, Int.reduceLE, decide_true, decide_false, Nat.reduceEqDiff, Nat.reduceLT, reduceIte, cond_true, cond_false, List.map_cons, List.map_nil, Nat.reduceAdd]; rfl)
  case hf => rw [hSx]; exact few_ok hM1 hs0
  case k =>
  intro y h2 hy
  rw [hSx] at hy
  obtain ⟨rfl, s2⟩ := hy
  have hlt2 := Nat.lt_of_lt_of_le hlt s2.next
  have hrow2 := hrow.grow s2 hlt
  have hM2 := hM1.grow s2
  have hf2 := s2.fl hf1
  cases hfew : fewB M with
  | false =>
    repeat (first
      | ((first | apply Ops.op | apply Ops.op0 | apply Drs.bar | apply Drs.pure); case e => (intro k; simp (disch := omega) only [evs, evt, Int.reduceToNat, Int.reduceEq, Int.reduceLT, Int.reduceLE, decide_true, decide_false, Nat.reduceEqDiff, Nat.reduceLT, reduceIte, cond_true, cond_false, Nat.reduceAdd, hfew]; rfl))
      | ((first | apply Ops.g1 | apply Drs.g1); case e => (simp (disch := omega) only [evs, evt, Int.reduceToNat, Int.reduceEq, Int.reduceLT, Int.reduceLE, decide_true, decide_false, Nat.reduceEqDiff, Nat.reduceLT, reduceIte, hfew]))
      | ((first | apply Ops.g0t | apply Ops.g0f | apply Drs.g0t | apply Drs.g0f); case e => (simp (disch := omega) only [evs, evt, Int.reduceToNat, Int.reduceEq, Int.reduceLT, Int.reduceLE, decide_true, decide_false, Nat.reduceEqDiff, Nat.reduceLT, reduceIte, hfew]))
      | ((first | apply Ops.g0u | apply Drs.g0u); case e => (simp (disch := omega) only [evs, evt, Int.reduceToNat, Int.reduceEq, Int.reduceLT, Int.reduceLE, decide_true, decide_false, Nat.reduceEqDiff, Nat.reduceLT, reduceIte, hfew]))
      | apply Ok.seq
      | apply Ok.block
      | (apply Ok.ops (S := Sx))
      | (apply Ok.condT; case e => (simp (disch := omega) only [evs, evt, Int.reduceToNat, Int.reduceEq, Int.reduceLT, Int.reduceLE, decide_true, decide_false, Nat.reduceEqDiff, Nat.reduceLT, reduceIte, hfew]))
      | (apply Ok.condF; case e => (simp (disch := omega) only [evs, evt, Int.reduceToNat, Int.reduceEq, Int.reduceLT, Int.reduceLE, decide_true, decide_false, Nat.reduceEqDiff, Nat.reduceLT, reduceIte, hfew]))
      | ((first | apply Ops.nil | apply Drs.nil | apply Ok.skip | apply Ok.exit | apply Ok.ret); try simp only [Then_n, Then_e, Then_r, Out_n, Out_e, Out_r, Nat.reduceEqDiff, reduceIte])
      | (apply Ok.drs (S := Sx) hmix)
      )
    exact ⟨_, fun k => res_1 _ _ _ k, by simp (disch := omega) only [evs, evt, Int.reduceToNat, Int.reduceEq, Int.reduceLT, Int.reduceLE, decide_true, decide_false, Nat.reduceEqDiff, Nat.reduceLT, reduceIte, cond_true, cond_false, List.map_cons, List.map_nil, Nat.reduceAdd, one_1]⟩
  | true =>
  have hw := of_decide_eq_true hfew
  have hs : M.length ≤ 1000000 := by omega
  have hrl : ∀ i, i < M.length → (M.getD i []).length ≤ 1000000 := fun i hi => by have := hw.2 i hi; omega
  clear hw hs0
  repeat (first
    | ((first | apply Ops.op | apply Ops.op0 | apply Drs.bar | apply Drs.pure); case e => (intro k; simp (disch := omega) only [evs, evt, Int.reduceToNat, Int.reduceEq, Int.reduceLT, Int.reduceLE, decide_true, decide_false, Nat.reduceEqDiff, Nat.reduceLT, reduceIte, cond_true, cond_false, Nat.reduceAdd, hrow2.rdA]; rfl))
    | ((first | apply Ops.g1 | apply Drs.g1); case e => (simp (disch := omega) only [evs, evt, Int.reduceToNat, Int.reduceEq, Int.reduceLT, Int.reduceLE, decide_true, decide_false, Nat.reduceEqDiff, Nat.reduceLT, reduceIte, hrow2.rdA]))
    | ((first | apply Ops.g0t | apply Ops.g0f | apply Drs.g0t | apply Drs.g0f); case e => (simp (disch := omega) only [evs, evt, Int.reduceToNat, Int.reduceEq, Int.reduceLT, Int.reduceLE, decide_true, decide_false, Nat.reduceEqDiff, Nat.reduceLT, reduceIte, hrow2.rdA]))
    | ((first | apply Ops.g0u | apply Drs.g0u); case e => (simp (disch := omega) only [evs, evt, Int.reduceToNat, Int.reduceEq, Int.reduceLT, Int.reduceLE, decide_true, decide_false, Nat.reduceEqDiff, Nat.reduceLT, reduceIte, hrow2.rdA]))
    | apply Ok.seq
    | apply Ok.block
    | (apply Ok.ops (S := Sx))
    | (apply Ok.condT; case e => (simp (disch := omega) only [evs, evt, Int.reduceToNat, Int.reduceEq, Int.reduceLT, Int.reduceLE, decide_true, decide_false, Nat.reduceEqDiff, Nat.reduceLT, reduceIte, hrow2.rdA]))
    | (apply Ok.condF; case e => (simp (disch := omega) only [evs, evt, Int.reduceToNat, Int.reduceEq, Int.reduceLT, Int.reduceLE, decide_true, decide_false, Nat.reduceEqDiff, Nat.reduceLT, reduceIte, hrow2.rdA]))
    | ((first | apply Ops.nil | apply Drs.nil | apply Ok.skip | apply Ok.exit | apply Ok.ret); try simp only [Then_n, Then_e, Then_r, Out_n, Out_e, Out_r, Nat.reduceEqDiff, reduceIte])
    | (apply Ok.drs (S := Sx) hmix)
    )
  apply Ops.call
  case e => (simp (disch := omega) only [evs, evt, Int.reduceToNat, Int.reduceEq, Int.reduceLT, Int.reduceLE, decide_true, decide_false, Nat.reduceEqDiff, Nat.reduceLT, reduceIte, cond_true, cond_false, List.map_cons, List.map_nil, Nat.reduceAdd]; rfl)
  case hf => rw [hSx]; exact sl_join hM2 hs a b
  case k =>
  intro y3 h3 hy
  rw [hSx] at hy
  obtain ⟨rfl, s3⟩ := hy _ _ rfl
  have hrow3 := hrow2.grow s3 hlt2
  have hlt3 := Nat.lt_of_lt_of_le hlt2 s3.next
  have hM3 := hM2.grow s3
  have hf3 := s3.fl hf2
  repeat (first
    | ((first | apply Ops.op | apply Ops.op0 | apply Drs.bar | apply Drs.pure); case e => (intro k; simp (disch := omega) only [evs, evt, Int.reduceToNat, Int.reduceEq, Int.reduceLT, Int.reduceLE, decide_true, decide_false, Nat.reduceEqDiff, Nat.reduceLT, reduceIte, cond_true, cond_false, Nat.reduceAdd, hrow3.rdA]; rfl))
    | ((first | apply Ops.g1 | apply Drs.g1); case e => (simp (disch := omega) only [evs, evt, Int.reduceToNat, Int.reduceEq, Int.reduceLT, Int.reduceLE, decide_true, decide_false, Nat.reduceEqDiff, Nat.reduceLT, reduceIte, hrow3.rdA]))
    | ((first | apply Ops.g0t | apply Ops.g0f | apply Drs.g0t | apply Drs.g0f); case e => (simp (disch := omega) only [evs, evt, Int.reduceToNat, Int.reduceEq, Int.reduceLT, Int.reduceLE, decide_true, decide_false, Nat.reduceEqDiff, Nat.reduceLT, reduceIte, hrow3.rdA]))
    | ((first | apply Ops.g0u | apply Drs.g0u); case e => (simp (disch := omega) only [evs, evt, Int.reduceToNat, Int.reduceEq, Int.reduceLT, Int.reduceLE, decide_true, decide_false, Nat.reduceEqDiff, Nat.reduceLT, reduceIte, hrow3.rdA]))
    | apply Ok.seq
    | apply Ok.block
    | (apply Ok.ops (S := Sx))
    | (apply Ok.condT; case e => (simp (disch := omega) only [evs, evt, Int.reduceToNat, Int.reduceEq, Int.reduceLT, Int.reduceLE, decide_true, decide_false, Nat.reduceEqDiff, Nat.reduceLT, reduceIte, hrow3.rdA]))
    | (apply Ok.condF; case e => (simp (disch := omega) only [evs, evt, Int.reduceToNat, Int.reduceEq, Int.reduceLT, Int.reduceLE, decide_true, decide_false, Nat.reduceEqDiff, Nat.reduceLT, reduceIte, hrow3.rdA]))
    | ((first | apply Ops.nil | apply Drs.nil | apply Ok.skip | apply Ok.exit | apply Ok.ret); try simp only [Then_n, Then_e, Then_r, Out_n, Out_e, Out_r, Nat.reduceEqDiff, reduceIte])
    | (apply Ok.drs (S := Sx) hmix)
    )
  apply Ops.call
  case e => (simp (disch := omega) only [evs, evt, Int.reduceToNat, Int.reduceEq, Int.reduceLT, Int.reduceLE, decide_true, decide_false, Nat.reduceEqDiff, Nat.reduceLT, reduceIte, cond_true, cond_false, List.map_cons, List.map_nil, Nat.reduceAdd]; rfl)
  case hf => rw [hSx]; exact sl_rjoin hM3 hs hrl a b
  case k =>
  intro y4 h4 hy
  rw [hSx] at hy
  obtain ⟨rfl, s4⟩ := hy _ _ rfl
  have hrow4 := hrow3.grow s4 hlt3
  have hlt4 := Nat.lt_of_lt_of_le hlt3 s4.next
  have hM4 := hM3.grow s4
  have hf4 := s4.fl hf3
  repeat (first
    | ((first | apply Ops.op | apply Ops.op0 | apply Drs.bar | apply Drs.pure); case e => (intro k; simp (disch := omega) only [evs, evt, Int.reduceToNat, Int.reduceEq, Int.reduceLT, Int.reduceLE, decide_true, decide_false, Nat.reduceEqDiff, Nat.reduceLT, reduceIte, cond_true, cond_false, Nat.reduceAdd, hrow4.rdA]; rfl))
    | ((first | apply Ops.g1 | apply Drs.g1); case e => (simp (disch := omega) only [evs, evt, Int.reduceToNat, Int.reduceEq, Int.reduceLT, Int.reduceLE, decide_true, decide_false, Nat.reduceEqDiff, Nat.reduceLT, reduceIte, hrow4.rdA]))
    | ((first | apply Ops.g0t | apply Ops.g0f | apply Drs.g0t | apply Drs.g0f); case e => (simp (disch := omega) only [evs, evt, Int.reduceToNat, Int.reduceEq, Int.reduceLT, Int.reduceLE, decide_true, decide_false, Nat.reduceEqDiff, Nat.reduceLT, reduceIte, hrow4.rdA]))
    | ((first | apply Ops.g0u | apply Drs.g0u); case e => (simp (disch := omega) only [evs, evt, Int.reduceToNat, Int.reduceEq, Int.reduceLT, Int.reduceLE, decide_true, decide_false, Nat.reduceEqDiff, Nat.reduceLT, reduceIte, hrow4.rdA]))
    | apply Ok.seq
    | apply Ok.block
    | (apply Ok.ops (S := Sx))
    | (apply Ok.condT; case e => (simp (disch := omega) only [evs, evt, Int.reduceToNat, Int.reduceEq, Int.reduceLT, Int.reduceLE, decide_true, decide_false, Nat.reduceEqDiff, Nat.reduceLT, reduceIte, hrow4.rdA]))
    | (apply Ok.condF; case e => (simp (disch := omega) only [evs, evt, Int.reduceToNat, Int.reduceEq, Int.reduceLT, Int.reduceLE, decide_true, decide_false, Nat.reduceEqDiff, Nat.reduceLT, reduceIte, hrow4.rdA]))
    | ((first | apply Ops.nil | apply Drs.nil | apply Ok.skip | apply Ok.exit | apply Ok.ret); try simp only [Then_n, Then_e, Then_r, Out_n, Out_e, Out_r, Nat.reduceEqDiff, reduceIte])
    | (apply Ok.drs (S := Sx) hmix)
    )
  refine Drs.forget (fun t => get 1 t = .i .i64 a ∧ get 2 t = .i .i64 b ∧ get 3 t = .i .i64 n ∧ get 4 t = .p id 0 0 1 ∧ get 9 t = .i .i64 (joinP M a b).1 ∧ get 10 t = .b (joinP M a b).2 ∧ get 11 t = .i .i64 (joinP M a b).1 ∧ get 12 t = .b (joinP M a b).2 ∧ get 32 t = .a [v]) ⟨by simp (disch := omega) only [evs, evt, Int.reduceToNat, Int.reduceEq, Int.reduceLT, Int.reduceLE, decide_true, decide_false, Nat.reduceEqDiff, Nat.reduceLT, reduceIte, cond_true, cond_false, List.map_cons, List.map_nil, Nat.reduceAdd], by simp (disch := omega) only [evs, evt, Int.reduceToNat, Int.reduceEq, Int.reduceLT, Int.reduceLE, decide_true, decide_false, Nat.reduceEqDiff, Nat.reduceLT, reduceIte, cond_true, cond_false, List.map_cons, List.map_nil, Nat.reduceAdd], by simp (disch := omega) only [evs, evt, Int.reduceToNat, Int.reduceEq, Int.reduceLT, Int.reduceLE, decide_true, decide_false, Nat.reduceEqDiff, Nat.reduceLT, reduceIte, cond_true, cond_false, List.map_cons, List.map_nil, Nat.reduceAdd], by simp (disch := omega) only [evs, evt, Int.reduceToNat, Int.reduceEq, Int.reduceLT, Int.reduceLE, decide_true, decide_false, Nat.reduceEqDiff, Nat.reduceLT, reduceIte, cond_true, cond_false, List.map_cons, List.map_nil, Nat.reduceAdd], by simp (disch := omega) only [evs, evt, Int.reduceToNat, Int.reduceEq, Int.reduceLT, Int.reduceLE, decide_true, decide_false, Nat.reduceEqDiff, Nat.reduceLT, reduceIte, cond_true, cond_false, List.map_cons, List.map_nil, Nat.reduceAdd], by simp (disch := omega) only [evs, evt, Int.reduceToNat, Int.reduceEq, Int.reduceLT, Int.reduceLE, decide_true, decide_false, Nat.reduceEqDiff, Nat.reduceLT, reduceIte, cond_true, cond_false, List.map_cons, List.map_nil, Nat.reduceAdd], by simp (disch := omega) only [evs, evt, Int.reduceToNat, Int.reduceEq, Int.reduceLT, Int.reduceLE, decide_true, decide_false, Nat.reduceEqDiff, Nat.reduceLT, reduceIte, cond_true, cond_false, List.map_cons, List.map_nil, Nat.reduceAdd], by simp (disch := omega) only [evs, evt, Int.reduceToNat, Int.reduceEq, Int.reduceLT, Int.reduceLE, decide_true, decide_false, Nat.reduceEqDiff, Nat.reduceLT, reduceIte, cond_true, cond_false, List.map_cons, List.map_nil, Nat.reduceAdd], by simp (disch := omega) only [evs, evt, Int.reduceToNat, Int.reduceEq, Int.reduceLT, Int.reduceLE, decide_true, decide_false, Nat.reduceEqDiff, Nat.reduceLT, reduceIte, cond_true, cond_false, List.map_cons, List.map_nil, Nat.reduceAdd]⟩ ?_
  rintro t ⟨fa, fb, fn, fi, f9, f10, f11, f12, f32⟩
  apply Drs.call
  case e => (simp (disch := omega) only [evs, evt, Int.reduceToNat, Int.reduceEq, Int.reduceLT, Int.reduceLE, decide_true, decide_false, Nat.reduceEqDiff, Nat.reduceLT, reduceIte, cond_true, cond_false, List.map_cons, List.map_nil, Nat.reduceAdd, f32]; rfl)
  case hf => rw [hSx]; exact sl_check (Mx.refl_floor' hM4) hs
  case k =>
  intro y5 h5 hy
  rw [hSx] at hy
  obtain ⟨rfl, s5⟩ := hy
  replace s5 := s5.unfloor
  generalize unFloor h4 h5 = h5 at *
  have hrow5 := hrow4.grow s5 hlt4
  have hlt5 := Nat.lt_of_lt_of_le hlt4 s5.next
  have hM5 := hM4.grow s5
  have hf5 := s5.fl hf4
  repeat (first
    | ((first | apply Ops.op | apply Ops.op0 | apply Drs.bar | apply Drs.pure); case e => (intro k; simp (disch := omega) only [evs, evt, Int.reduceToNat, Int.reduceEq, Int.reduceLT, Int.reduceLE, decide_true, decide_false, Nat.reduceEqDiff, Nat.reduceLT, reduceIte, cond_true, cond_false, Nat.reduceAdd, hrow5.rdA, fa, fb, fn, fi, f9, f10, f11, f12]; rfl))
    | ((first | apply Ops.g1 | apply Drs.g1); case e => (simp (disch := omega) only [evs, evt, Int.reduceToNat, Int.reduceEq, Int.reduceLT, Int.reduceLE, decide_true, decide_false, Nat.reduceEqDiff, Nat.reduceLT, reduceIte, hrow5.rdA, fa, fb, fn, fi, f9, f10, f11, f12]))
    | ((first | apply Ops.g0t | apply Ops.g0f | apply Drs.g0t | apply Drs.g0f); case e => (simp (disch := omega) only [evs, evt, Int.reduceToNat, Int.reduceEq, Int.reduceLT, Int.reduceLE, decide_true, decide_false, Nat.reduceEqDiff, Nat.reduceLT, reduceIte, hrow5.rdA, fa, fb, fn, fi, f9, f10, f11, f12]))
    | ((first | apply Ops.g0u | apply Drs.g0u); case e => (simp (disch := omega) only [evs, evt, Int.reduceToNat, Int.reduceEq, Int.reduceLT, Int.reduceLE, decide_true, decide_false, Nat.reduceEqDiff, Nat.reduceLT, reduceIte, hrow5.rdA, fa, fb, fn, fi, f9, f10, f11, f12]))
    | apply Ok.seq
    | apply Ok.block
    | (apply Ok.ops (S := Sx))
    | (apply Ok.condT; case e => (simp (disch := omega) only [evs, evt, Int.reduceToNat, Int.reduceEq, Int.reduceLT, Int.reduceLE, decide_true, decide_false, Nat.reduceEqDiff, Nat.reduceLT, reduceIte, hrow5.rdA, fa, fb, fn, fi, f9, f10, f11, f12]))
    | (apply Ok.condF; case e => (simp (disch := omega) only [evs, evt, Int.reduceToNat, Int.reduceEq, Int.reduceLT, Int.reduceLE, decide_true, decide_false, Nat.reduceEqDiff, Nat.reduceLT, reduceIte, hrow5.rdA, fa, fb, fn, fi, f9, f10, f11, f12]))
    | ((first | apply Ops.nil | apply Drs.nil | apply Ok.skip | apply Ok.exit | apply Ok.ret); try simp only [Then_n, Then_e, Then_r, Out_n, Out_e, Out_r, Nat.reduceEqDiff, reduceIte])
    | (apply Ok.drs (S := Sx) hmix)
    )
  apply Drs.callBar
  case e => (simp (disch := omega) only [evs, evt, Int.reduceToNat, Int.reduceEq, Int.reduceLT, Int.reduceLE, decide_true, decide_false, Nat.reduceEqDiff, Nat.reduceLT, reduceIte, cond_true, cond_false, List.map_cons, List.map_nil, Nat.reduceAdd]; rfl)
  case hf => rw [hSx]; exact sl_rcheck hM5 hs hrl
  case k =>
  intro y6 h6 hy
  rw [hSx] at hy
  obtain ⟨rfl, s6⟩ := hy
  have hrow6 := hrow5.grow s6 hlt5
  have hlt6 := Nat.lt_of_lt_of_le hlt5 s6.next
  have hM6 := hM5.grow s6
  have hf6 := s6.fl hf5
  repeat (first
    | ((first | apply Ops.op | apply Ops.op0 | apply Drs.bar | apply Drs.pure); case e => (intro k; simp (disch := omega) only [evs, evt, Int.reduceToNat, Int.reduceEq, Int.reduceLT, Int.reduceLE, decide_true, decide_false, Nat.reduceEqDiff, Nat.reduceLT, reduceIte, cond_true, cond_false, Nat.reduceAdd, hrow6.rdA, fa, fb, fn, fi, f9, f10, f11, f12]; rfl))
    | ((first | apply Ops.g1 | apply Drs.g1); case e => (simp (disch := omega) only [evs, evt, Int.reduceToNat, Int.reduceEq, Int.reduceLT, Int.reduceLE, decide_true, decide_false, Nat.reduceEqDiff, Nat.reduceLT, reduceIte, hrow6.rdA, fa, fb, fn, fi, f9, f10, f11, f12]))
    | ((first | apply Ops.g0t | apply Ops.g0f | apply Drs.g0t | apply Drs.g0f); case e => (simp (disch := omega) only [evs, evt, Int.reduceToNat, Int.reduceEq, Int.reduceLT, Int.reduceLE, decide_true, decide_false, Nat.reduceEqDiff, Nat.reduceLT, reduceIte, hrow6.rdA, fa, fb, fn, fi, f9, f10, f11, f12]))
    | ((first | apply Ops.g0u | apply Drs.g0u); case e => (simp (disch := omega) only [evs, evt, Int.reduceToNat, Int.reduceEq, Int.reduceLT, Int.reduceLE, decide_true, decide_false, Nat.reduceEqDiff, Nat.reduceLT, reduceIte, hrow6.rdA, fa, fb, fn, fi, f9, f10, f11, f12]))
    | apply Ok.seq
    | apply Ok.block
    | (apply Ok.ops (S := Sx))
    | (apply Ok.condT; case e => (simp (disch := omega) only [evs, evt, Int.reduceToNat, Int.reduceEq, Int.reduceLT, Int.reduceLE, decide_true, decide_false, Nat.reduceEqDiff, Nat.reduceLT, reduceIte, hrow6.rdA, fa, fb, fn, fi, f9, f10, f11, f12]))
    | (apply Ok.condF; case e => (simp (disch := omega) only [evs, evt, Int.reduceToNat, Int.reduceEq, Int.reduceLT, Int.reduceLE, decide_true, decide_false, Nat.reduceEqDiff, Nat.reduceLT, reduceIte, hrow6.rdA, fa, fb, fn, fi, f9, f10, f11, f12]))
    | ((first | apply Ops.nil | apply Drs.nil | apply Ok.skip | apply Ok.exit | apply Ok.ret); try simp only [Then_n, Then_e, Then_r, Out_n, Out_e, Out_r, Nat.reduceEqDiff, reduceIte])
    | (apply Ok.drs (S := Sx) hmix)
    )
  apply Drs.call
  case e => (simp (disch := omega) only [evs, evt, Int.reduceToNat, Int.reduceEq, Int.reduceLT, Int.reduceLE, decide_true, decide_false, Nat.reduceEqDiff, Nat.reduceLT, reduceIte, cond_true, cond_false, List.map_cons, List.map_nil, Nat.reduceAdd]; rfl)
  case hf => rw [hSx]; exact sl_levels (Mx.refl_floor' hM6) hs
  case k =>
  intro y7 h7 hy
  rw [hSx] at hy
  obtain ⟨rfl, s7⟩ := hy
  replace s7 := s7.unfloor
  generalize unFloor h6 h7 = h7 at *
  have hrow7 := hrow6.grow s7 hlt6
  have hlt7 := Nat.lt_of_lt_of_le hlt6 s7.next
  have hM7 := hM6.grow s7
  have hf7 := s7.fl hf6
  repeat (first
    | ((first | apply Ops.op | apply Ops.op0 | apply Drs.bar | apply Drs.pure); case e => (intro k; simp (disch := omega) only [evs, evt, Int.reduceToNat, Int.reduceEq, Int.reduceLT, Int.reduceLE, decide_true, decide_false, Nat.reduceEqDiff, Nat.reduceLT, reduceIte, cond_true, cond_false, Nat.reduceAdd, hrow7.rdA, fa, fb, fn, fi, f9, f10, f11, f12]; rfl))
    | ((first | apply Ops.g1 | apply Drs.g1); case e => (simp (disch := omega) only [evs, evt, Int.reduceToNat, Int.reduceEq, Int.reduceLT, Int.reduceLE, decide_true, decide_false, Nat.reduceEqDiff, Nat.reduceLT, reduceIte, hrow7.rdA, fa, fb, fn, fi, f9, f10, f11, f12]))
    | ((first | apply Ops.g0t | apply Ops.g0f | apply Drs.g0t | apply Drs.g0f); case e => (simp (disch := omega) only [evs, evt, Int.reduceToNat, Int.reduceEq, Int.reduceLT, Int.reduceLE, decide_true, decide_false, Nat.reduceEqDiff, Nat.reduceLT, reduceIte, hrow7.rdA, fa, fb, fn, fi, f9, f10, f11, f12]))
    | ((first | apply Ops.g0u | apply Drs.g0u); case e => (simp (disch := omega) only [evs, evt, Int.reduceToNat, Int.reduceEq, Int.reduceLT, Int.reduceLE, decide_true, decide_false, Nat.reduceEqDiff, Nat.reduceLT, reduceIte, hrow7.rdA, fa, fb, fn, fi, f9, f10, f11, f12]))
    | apply Ok.seq
    | apply Ok.block
    | (apply Ok.ops (S := Sx))
    | (apply Ok.condT; case e => (simp (disch := omega) only [evs, evt, Int.reduceToNat, Int.reduceEq, Int.reduceLT, Int.reduceLE, decide_true, decide_false, Nat.reduceEqDiff, Nat.reduceLT, reduceIte, hrow7.rdA, fa, fb, fn, fi, f9, f10, f11, f12]))
    | (apply Ok.condF; case e => (simp (disch := omega) only [evs, evt, Int.reduceToNat, Int.reduceEq, Int.reduceLT, Int.reduceLE, decide_true, decide_false, Nat.reduceEqDiff, Nat.reduceLT, reduceIte, hrow7.rdA, fa, fb, fn, fi, f9, f10, f11, f12]))
    | ((first | apply Ops.nil | apply Drs.nil | apply Ok.skip | apply Ok.exit | apply Ok.ret); try simp only [Then_n, Then_e, Then_r, Out_n, Out_e, Out_r, Nat.reduceEqDiff, reduceIte])
    | (apply Ok.drs (S := Sx) hmix)
    )
  apply Drs.callBar
  case e => (simp (disch := omega) only [evs, evt, Int.reduceToNat, Int.reduceEq, Int.reduceLT, Int.reduceLE, decide_true, decide_false, Nat.reduceEqDiff, Nat.reduceLT, reduceIte, cond_true, cond_false, List.map_cons, List.map_nil, Nat.reduceAdd]; rfl)
  case hf => rw [hSx]; exact sl_rlevels hM7 hs hrl
  case k =>
  intro y8 h8 hy
  rw [hSx] at hy
  obtain ⟨rfl, s8⟩ := hy
  have hrow8 := hrow7.grow s8 hlt7
  have hlt8 := Nat.lt_of_lt_of_le hlt7 s8.next
  have hM8 := hM7.grow s8
  have hf8 := s8.fl hf7
  repeat (first
    | ((first | apply Ops.op | apply Ops.op0 | apply Drs.bar | apply Drs.pure); case e => (intro k; simp (disch := omega) only [evs, evt, Int.reduceToNat, Int.reduceEq, Int.reduceLT, Int.reduceLE, decide_true, decide_false, Nat.reduceEqDiff, Nat.reduceLT, reduceIte, cond_true, cond_false, Nat.reduceAdd, hrow8.rdA, fa, fb, fn, fi, f9, f10, f11, f12]; rfl))
    | ((first | apply Ops.g1 | apply Drs.g1); case e => (simp (disch := omega) only [evs, evt, Int.reduceToNat, Int.reduceEq, Int.reduceLT, Int.reduceLE, decide_true, decide_false, Nat.reduceEqDiff, Nat.reduceLT, reduceIte, hrow8.rdA, fa, fb, fn, fi, f9, f10, f11, f12]))
    | ((first | apply Ops.g0t | apply Ops.g0f | apply Drs.g0t | apply Drs.g0f); case e => (simp (disch := omega) only [evs, evt, Int.reduceToNat, Int.reduceEq, Int.reduceLT, Int.reduceLE, decide_true, decide_false, Nat.reduceEqDiff, Nat.reduceLT, reduceIte, hrow8.rdA, fa, fb, fn, fi, f9, f10, f11, f12]))
    | ((first | apply Ops.g0u | apply Drs.g0u); case e => (simp (disch := omega) only [evs, evt, Int.reduceToNat, Int.reduceEq, Int.reduceLT, Int.reduceLE, decide_true, decide_false, Nat.reduceEqDiff, Nat.reduceLT, reduceIte, hrow8.rdA, fa, fb, fn, fi, f9, f10, f11, f12]))
    | apply Ok.seq
    | apply Ok.block
    | (apply Ok.ops (S := Sx))
    | (apply Ok.condT; case e => (simp (disch := omega) only [evs, evt, Int.reduceToNat, Int.reduceEq, Int.reduceLT, Int.reduceLE, decide_true, decide_false, Nat.reduceEqDiff, Nat.reduceLT, reduceIte, hrow8.rdA, fa, fb, fn, fi, f9, f10, f11, f12]))
    | (apply Ok.condF; case e => (simp (disch := omega) only [evs, evt, Int.reduceToNat, Int.reduceEq, Int.reduceLT, Int.reduceLE, decide_true, decide_false, Nat.reduceEqDiff, Nat.reduceLT, reduceIte, hrow8.rdA, fa, fb, fn, fi, f9, f10, f11, f12]))
    | ((first | apply Ops.nil | apply Drs.nil | apply Ok.skip | apply Ok.exit | apply Ok.ret); try simp only [Then_n, Then_e, Then_r, Out_n, Out_e, Out_r, Nat.reduceEqDiff, reduceIte])
    | (apply Ok.drs (S := Sx) hmix)
    )
  apply Drs.call
  case e => (simp (disch := omega) only [evs, evt, Int.reduceToNat, Int.reduceEq, Int.reduceLT, Int.reduceLE, decide_true, decide_false, Nat.reduceEqDiff, Nat.reduceLT, reduceIte, cond_true, cond_false, List.map_cons, List.map_nil, Nat.reduceAdd, fa, fb, fn, fi, f9, f10, f11, f12]; rfl)
  case hf => rw [hSx]; exact sl_dom (Mx.refl_floor' hM8) hs a b
  case k =>
  intro y9 h9 hy
  rw [hSx] at hy
  obtain ⟨rfl, s9⟩ := hy _ _ rfl
  replace s9 := s9.unfloor
  generalize unFloor h8 h9 = h9 at *
  have hrow9 := hrow8.grow s9 hlt8
  have hlt9 := Nat.lt_of_lt_of_le hlt8 s9.next
  have hM9 := hM8.grow s9
  have hf9 := s9.fl hf8
  repeat (first
    | ((first | apply Ops.op | apply Ops.op0 | apply Drs.bar | apply Drs.pure); case e => (intro k; simp (disch := omega) only [evs, evt, Int.reduceToNat, Int.reduceEq, Int.reduceLT, Int.reduceLE, decide_true, decide_false, Nat.reduceEqDiff, Nat.reduceLT, reduceIte, cond_true, cond_false, Nat.reduceAdd, hrow9.rdA, fa, fb, fn, fi, f9, f10, f11, f12]; rfl))
    | ((first | apply Ops.g1 | apply Drs.g1); case e => (simp (disch := omega) only [evs, evt, Int.reduceToNat, Int.reduceEq, Int.reduceLT, Int.reduceLE, decide_true, decide_false, Nat.reduceEqDiff, Nat.reduceLT, reduceIte, hrow9.rdA, fa, fb, fn, fi, f9, f10, f11, f12]))
    | ((first | apply Ops.g0t | apply Ops.g0f | apply Drs.g0t | apply Drs.g0f); case e => (simp (disch := omega) only [evs, evt, Int.reduceToNat, Int.reduceEq, Int.reduceLT, Int.reduceLE, decide_true, decide_false, Nat.reduceEqDiff, Nat.reduceLT, reduceIte, hrow9.rdA, fa, fb, fn, fi, f9, f10, f11, f12]))
    | ((first | apply Ops.g0u | apply Drs.g0u); case e => (simp (disch := omega) only [evs, evt, Int.reduceToNat, Int.reduceEq, Int.reduceLT, Int.reduceLE, decide_true, decide_false, Nat.reduceEqDiff, Nat.reduceLT, reduceIte, hrow9.rdA, fa, fb, fn, fi, f9, f10, f11, f12]))
    | apply Ok.seq
    | apply Ok.block
    | (apply Ok.ops (S := Sx))
    | (apply Ok.condT; case e => (simp (disch := omega) only [evs, evt, Int.reduceToNat, Int.reduceEq, Int.reduceLT, Int.reduceLE, decide_true, decide_false, Nat.reduceEqDiff, Nat.reduceLT, reduceIte, hrow9.rdA, fa, fb, fn, fi, f9, f10, f11, f12]))
    | (apply Ok.condF; case e => (simp (disch := omega) only [evs, evt, Int.reduceToNat, Int.reduceEq, Int.reduceLT, Int.reduceLE, decide_true, decide_false, Nat.reduceEqDiff, Nat.reduceLT, reduceIte, hrow9.rdA, fa, fb, fn, fi, f9, f10, f11, f12]))
    | ((first | apply Ops.nil | apply Drs.nil | apply Ok.skip | apply Ok.exit | apply Ok.ret); try simp only [Then_n, Then_e, Then_r, Out_n, Out_e, Out_r, Nat.reduceEqDiff, reduceIte])
    | (apply Ok.drs (S := Sx) hmix)
    )
  apply Drs.callBar
  case e => (simp (disch := omega) only [evs, evt, Int.reduceToNat, Int.reduceEq, Int.reduceLT, Int.reduceLE, decide_true, decide_false, Nat.reduceEqDiff, Nat.reduceLT, reduceIte, cond_true, cond_false, List.map_cons, List.map_nil, Nat.reduceAdd, fa, fb, fn, fi, f9, f10, f11, f12]; rfl)
  case hf => rw [hSx]; exact sl_rdom hM9 hs hrl a b
  case k =>
  intro y10 h10 hy
  rw [hSx] at hy
  obtain ⟨rfl, s10⟩ := hy _ _ rfl
  have hrow10 := hrow9.grow s10 hlt9
  have hlt10 := Nat.lt_of_lt_of_le hlt9 s10.next
  have hM10 := hM9.grow s10
  have hf10 := s10.fl hf9
  repeat (first
    | ((first | apply Ops.op | apply Ops.op0 | apply Drs.bar | apply Drs.pure); case e => (intro k; simp (disch := omega) only [evs, evt, Int.reduceToNat, Int.reduceEq, Int.reduceLT, Int.reduceLE, decide_true, decide_false, Nat.reduceEqDiff, Nat.reduceLT, reduceIte, cond_true, cond_false, Nat.reduceAdd, hrow10.rdA, fa, fb, fn, fi, f9, f10, f11, f12, Bool.xor_self]; rfl))
    | ((first | apply Ops.g1 | apply Drs.g1); case e => (simp (disch := omega) only [evs, evt, Int.reduceToNat, Int.reduceEq, Int.reduceLT, Int.reduceLE, decide_true, decide_false, Nat.reduceEqDiff, Nat.reduceLT, reduceIte, hrow10.rdA, fa, fb, fn, fi, f9, f10, f11, f12, Bool.xor_self]))
    | ((first | apply Ops.g0t | apply Ops.g0f | apply Drs.g0t | apply Drs.g0f); case e => (simp (disch := omega) only [evs, evt, Int.reduceToNat, Int.reduceEq, Int.reduceLT, Int.reduceLE, decide_true, decide_false, Nat.reduceEqDiff, Nat.reduceLT, reduceIte, hrow10.rdA, fa, fb, fn, fi, f9, f10, f11, f12, Bool.xor_self]))
    | ((first | apply Ops.g0u | apply Drs.g0u); case e => (simp (disch := omega) only [evs, evt, Int.reduceToNat, Int.reduceEq, Int.reduceLT, Int.reduceLE, decide_true, decide_false, Nat.reduceEqDiff, Nat.reduceLT, reduceIte, hrow10.rdA, fa, fb, fn, fi, f9, f10, f11, f12, Bool.xor_self]))
    | apply Ok.seq
    | apply Ok.block
    | (apply Ok.ops (S := Sx))
    | (apply Ok.condT; case e => (simp (disch := omega) only [evs, evt, Int.reduceToNat, Int.reduceEq, Int.reduceLT, Int.reduceLE, decide_true, decide_false, Nat.reduceEqDiff, Nat.reduceLT, reduceIte, hrow10.rdA, fa, fb, fn, fi, f9, f10, f11, f12, Bool.xor_self]))
    | (apply Ok.condF; case e => (simp (disch := omega) only [evs, evt, Int.reduceToNat, Int.reduceEq, Int.reduceLT, Int.reduceLE, decide_true, decide_false, Nat.reduceEqDiff, Nat.reduceLT, reduceIte, hrow10.rdA, fa, fb, fn, fi, f9, f10, f11, f12, Bool.xor_self]))
    | ((first | apply Ops.nil | apply Drs.nil | apply Ok.skip | apply Ok.exit | apply Ok.ret); try simp only [Then_n, Then_e, Then_r, Out_n, Out_e, Out_r, Nat.reduceEqDiff, reduceIte])
    | (apply Ok.drs (S := Sx) hmix)
    )
  apply Drs.call
  case e => (simp (disch := omega) only [evs, evt, Int.reduceToNat, Int.reduceEq, Int.reduceLT, Int.reduceLE, decide_true, decide_false, Nat.reduceEqDiff, Nat.reduceLT, reduceIte, cond_true, cond_false, List.map_cons, List.map_nil, Nat.reduceAdd, fa, fb, fn, fi, f9, f10, f11, f12]; rfl)
  case hf => rw [hSx]; exact sl_above (Mx.refl_floor' hM10) hs a b
  case k =>
  intro y11 h11 hy
  rw [hSx] at hy
  obtain ⟨rfl, s11⟩ := hy _ _ rfl
  replace s11 := s11.unfloor
  generalize unFloor h10 h11 = h11 at *
  have hrow11 := hrow10.grow s11 hlt10
  have hlt11 := Nat.lt_of_lt_of_le hlt10 s11.next
  have hM11 := hM10.grow s11
  have hf11 := s11.fl hf10
  repeat (first
    | ((first | apply Ops.op | apply Ops.op0 | apply Drs.bar | apply Drs.pure); case e => (intro k; simp (disch := omega) only [evs, evt, Int.reduceToNat, Int.reduceEq, Int.reduceLT, Int.reduceLE, decide_true, decide_false, Nat.reduceEqDiff, Nat.reduceLT, reduceIte, cond_true, cond_false, Nat.reduceAdd, hrow11.rdA, fa, fb, fn, fi, f9, f10, f11, f12]; rfl))
    | ((first | apply Ops.g1 | apply Drs.g1); case e => (simp (disch := omega) only [evs, evt, Int.reduceToNat, Int.reduceEq, Int.reduceLT, Int.reduceLE, decide_true, decide_false, Nat.reduceEqDiff, Nat.reduceLT, reduceIte, hrow11.rdA, fa, fb, fn, fi, f9, f10, f11, f12]))
    | ((first | apply Ops.g0t | apply Ops.g0f | apply Drs.g0t | apply Drs.g0f); case e => (simp (disch := omega) only [evs, evt, Int.reduceToNat, Int.reduceEq, Int.reduceLT, Int.reduceLE, decide_true, decide_false, Nat.reduceEqDiff, Nat.reduceLT, reduceIte, hrow11.rdA, fa, fb, fn, fi, f9, f10, f11, f12]))
    | ((first | apply Ops.g0u | apply Drs.g0u); case e => (simp (disch := omega) only [evs, evt, Int.reduceToNat, Int.reduceEq, Int.reduceLT, Int.reduceLE, decide_true, decide_false, Nat.reduceEqDiff, Nat.reduceLT, reduceIte, hrow11.rdA, fa, fb, fn, fi, f9, f10, f11, f12]))
    | apply Ok.seq
    | apply Ok.block
    | (apply Ok.ops (S := Sx))
    | (apply Ok.condT; case e => (simp (disch := omega) only [evs, evt, Int.reduceToNat, Int.reduceEq, Int.reduceLT, Int.reduceLE, decide_true, decide_false, Nat.reduceEqDiff, Nat.reduceLT, reduceIte, hrow11.rdA, fa, fb, fn, fi, f9, f10, f11, f12]))
    | (apply Ok.condF; case e => (simp (disch := omega) only [evs, evt, Int.reduceToNat, Int.reduceEq, Int.reduceLT, Int.reduceLE, decide_true, decide_false, Nat.reduceEqDiff, Nat.reduceLT, reduceIte, hrow11.rdA, fa, fb, fn, fi, f9, f10, f11, f12]))
    | ((first | apply Ops.nil | apply Drs.nil | apply Ok.skip | apply Ok.exit | apply Ok.ret); try simp only [Then_n, Then_e, Then_r, Out_n, Out_e, Out_r, Nat.reduceEqDiff, reduceIte])
    | (apply Ok.drs (S := Sx) hmix)
    )
  apply Drs.callBar
  case e => (simp (disch := omega) only [evs, evt, Int.reduceToNat, Int.reduceEq, Int.reduceLT, Int.reduceLE, decide_true, decide_false, Nat.reduceEqDiff, Nat.reduceLT, reduceIte, cond_true, cond_false, List.map_cons, List.map_nil, Nat.reduceAdd, fa, fb, fn, fi, f9, f10, f11, f12]; rfl)
  case hf => rw [hSx]; exact sl_rabove hM11 hs hrl a b
  case k =>
  intro y12 h12 hy
  rw [hSx] at hy
  obtain ⟨rfl, s12⟩ := hy _ _ rfl
  have hrow12 := hrow11.grow s12 hlt11
  have hlt12 := Nat.lt_of_lt_of_le hlt11 s12.next
  have hM12 := hM11.grow s12
  have hf12 := s12.fl hf11
  repeat (first
    | ((first | apply Ops.op | apply Ops.op0 | apply Drs.bar | apply Drs.pure); case e => (intro k; simp (disch := omega) only [evs, evt, Int.reduceToNat, Int.reduceEq, Int.reduceLT, Int.reduceLE, decide_true, decide_false, Nat.reduceEqDiff, Nat.reduceLT, reduceIte, cond_true, cond_false, Nat.reduceAdd, hrow12.rdA, fa, fb, fn, fi, f9, f10, f11, f12, Bool.xor_self]; rfl))
    | ((first | apply Ops.g1 | apply Drs.g1); case e => (simp (disch := omega) only [evs, evt, Int.reduceToNat, Int.reduceEq, Int.reduceLT, Int.reduceLE, decide_true, decide_false, Nat.reduceEqDiff, Nat.reduceLT, reduceIte, hrow12.rdA, fa, fb, fn, fi, f9, f10, f11, f12, Bool.xor_self]))
    | ((first | apply Ops.g0t | apply Ops.g0f | apply Drs.g0t | apply Drs.g0f); case e => (simp (disch := omega) only [evs, evt, Int.reduceToNat, Int.reduceEq, Int.reduceLT, Int.reduceLE, decide_true, decide_false, Nat.reduceEqDiff, Nat.reduceLT, reduceIte, hrow12.rdA, fa, fb, fn, fi, f9, f10, f11, f12, Bool.xor_self]))
    | ((first | apply Ops.g0u | apply Drs.g0u); case e => (simp (disch := omega) only [evs, evt, Int.reduceToNat, Int.reduceEq, Int.reduceLT, Int.reduceLE, decide_true, decide_false, Nat.reduceEqDiff, Nat.reduceLT, reduceIte, hrow12.rdA, fa, fb, fn, fi, f9, f10, f11, f12, Bool.xor_self]))
    | apply Ok.seq
    | apply Ok.block
    | (apply Ok.ops (S := Sx))
    | (apply Ok.condT; case e => (simp (disch := omega) only [evs, evt, Int.reduceToNat, Int.reduceEq, Int.reduceLT, Int.reduceLE, decide_true, decide_false, Nat.reduceEqDiff, Nat.reduceLT, reduceIte, hrow12.rdA, fa, fb, fn, fi, f9, f10, f11, f12, Bool.xor_self]))
    | (apply Ok.condF; case e => (simp (disch := omega) only [evs, evt, Int.reduceToNat, Int.reduceEq, Int.reduceLT, Int.reduceLE, decide_true, decide_false, Nat.reduceEqDiff, Nat.reduceLT, reduceIte, hrow12.rdA, fa, fb, fn, fi, f9, f10, f11, f12, Bool.xor_self]))
    | ((first | apply Ops.nil | apply Drs.nil | apply Ok.skip | apply Ok.exit | apply Ok.ret); try simp only [Then_n, Then_e, Then_r, Out_n, Out_e, Out_r, Nat.reduceEqDiff, reduceIte])
    | (apply Ok.drs (S := Sx) hmix)
    )
  refine Drs.forget (fun t => get 1 t = .i .i64 a ∧ get 2 t = .i .i64 b ∧ get 3 t = .i .i64 n ∧ get 4 t = .p id 0 0 1 ∧ get 9 t = .i .i64 (joinP M a b).1 ∧ get 10 t = .b (joinP M a b).2 ∧ get 11 t = .i .i64 (joinP M a b).1 ∧ get 12 t = .b (joinP M a b).2 ∧ get 66 t = .b true ∧ get 67 t = .a [v] ∧ get 68 t = .i .i64 a) ⟨by simp (disch := omega) only [evs, evt, Int.reduceToNat, Int.reduceEq, Int.reduceLT, Int.reduceLE, decide_true, decide_false, Nat.reduceEqDiff, Nat.reduceLT, reduceIte, cond_true, cond_false, List.map_cons, List.map_nil, Nat.reduceAdd, fa, fb, fn, fi, f9, f10, f11, f12, Bool.xor_self], by simp (disch := omega) only [evs, evt, Int.reduceToNat, Int.reduceEq, Int.reduceLT, Int.reduceLE, decide_true, decide_false, Nat.reduceEqDiff, Nat.reduceLT, reduceIte, cond_true, cond_false, List.map_cons, List.map_nil, Nat.reduceAdd, fa, fb, fn, fi, f9, f10, f11, f12, Bool.xor_self], by simp (disch := omega) only [evs, evt, Int.reduceToNat, Int.reduceEq, Int.reduceLT, Int.reduceLE, decide_true, decide_false, Nat.reduceEqDiff, Nat.reduceLT, reduceIte, cond_true, cond_false, List.map_cons, List.map_nil, Nat.reduceAdd, fa, fb, fn, fi, f9, f10, f11, f12, Bool.xor_self], by simp (disch := omega) only [evs, evt, Int.reduceToNat, Int.reduceEq, Int.reduceLT, Int.reduceLE, decide_true, decide_false, Nat.reduceEqDiff, Nat.reduceLT, reduceIte, cond_true, cond_false, List.map_cons, List.map_nil, Nat.reduceAdd, fa, fb, fn, fi, f9, f10, f11, f12, Bool.xor_self], by simp (disch := omega) only [evs, evt, Int.reduceToNat, Int.reduceEq, Int.reduceLT, Int.reduceLE, decide_true, decide_false, Nat.reduceEqDiff, Nat.reduceLT, reduceIte, cond_true, cond_false, List.map_cons, List.map_nil, Nat.reduceAdd, fa, fb, fn, fi, f9, f10, f11, f12, Bool.xor_self], by simp (disch := omega) only [evs, evt, Int.reduceToNat, Int.reduceEq, Int.reduceLT, Int.reduceLE, decide_true, decide_false, Nat.reduceEqDiff, Nat.reduceLT, reduceIte, cond_true, cond_false, List.map_cons, List.map_nil, Nat.reduceAdd, fa, fb, fn, fi, f9, f10, f11, f12, Bool.xor_self], by simp (disch := omega) only [evs, evt, Int.reduceToNat, Int.reduceEq, Int.reduceLT, Int.reduceLE, decide_true, decide_false, Nat.reduceEqDiff, Nat.reduceLT, reduceIte, cond_true, cond_false, List.map_cons, List.map_nil, Nat.reduceAdd, fa, fb, fn, fi, f9, f10, f11, f12, Bool.xor_self], by simp (disch := omega) only [evs, evt, Int.reduceToNat, Int.reduceEq, Int.reduceLT, Int.reduceLE, decide_true, decide_false, Nat.reduceEqDiff, Nat.reduceLT, reduceIte, cond_true, cond_false, List.map_cons, List.map_nil, Nat.reduceAdd, fa, fb, fn, fi, f9, f10, f11, f12, Bool.xor_self], by simp (disch := omega) only [evs, evt, Int.reduceToNat, Int.reduceEq, Int.reduceLT, Int.reduceLE, decide_true, decide_false, Nat.reduceEqDiff, Nat.reduceLT, reduceIte, cond_true, cond_false, List.map_cons, List.map_nil, Nat.reduceAdd, fa, fb, fn, fi, f9, f10, f11, f12, Bool.xor_self], by simp (disch := omega) only [evs, evt, Int.reduceToNat, Int.reduceEq, Int.reduceLT, Int.reduceLE, decide_true, decide_false, Nat.reduceEqDiff, Nat.reduceLT, reduceIte, cond_true, cond_false, List.map_cons, List.map_nil, Nat.reduceAdd, fa, fb, fn, fi, f9, f10, f11, f12, Bool.xor_self], by simp (disch := omega) only [evs, evt, Int.reduceToNat, Int.reduceEq, Int.reduceLT, Int.reduceLE, decide_true, decide_false, Nat.reduceEqDiff, Nat.reduceLT, reduceIte, cond_true, cond_false, List.map_cons, List.map_nil, Nat.reduceAdd, fa, fb, fn, fi, f9, f10, f11, f12, Bool.xor_self]⟩ ?_
  clear fa fb fn fi f9 f10 f11 f12
  rintro t ⟨fa, fb, fn, fi, f9, f10, f11, f12, x66, x67, x68⟩
  apply Drs.call
  case e => (simp (disch := omega) only [evs, evt, Int.reduceToNat, Int.reduceEq, Int.reduceLT, Int.reduceLE, decide_true, decide_false, Nat.reduceEqDiff, Nat.reduceLT, reduceIte, cond_true, cond_false, List.map_cons, List.map_nil, Nat.reduceAdd, fa, fb, fn, fi, f9, f10, f11, f12, x66, x67, x68]; rfl)
  case hf => rw [hSx]; exact sl_below (Mx.refl_floor' hM12) hs (by rw [reFloor_floor, reFloor_next]; exact Nat.le_refl _) a
  case k =>
  intro y13 h13 hy
  rw [hSx] at hy
  obtain ⟨hl13, s13⟩ := hy _ rfl
  replace s13 := s13.unfloor
  have hq13 : Il (unFloor h12 h13) y13 (belowL M a) := Lst.unfloor hl13.il
  clear hl13
  generalize unFloor h12 h13 = h13 at *
  have hrow13 := hrow12.grow s13 hlt12
  have hlt13 := Nat.lt_of_lt_of_le hlt12 s13.next
  have hM13 := hM12.grow s13
  have hf13 := s13.fl hf12
  repeat (first
    | ((first | apply Ops.op | apply Ops.op0 | apply Drs.bar | apply Drs.pure); case e => (intro k; simp (disch := omega) only [evs, evt, Int.reduceToNat, Int.reduceEq, Int.reduceLT, Int.reduceLE, decide_true, decide_false, Nat.reduceEqDiff, Nat.reduceLT, reduceIte, cond_true, cond_false, Nat.reduceAdd, hrow13.rdA, fa, fb, fn, fi, f9, f10, f11, f12, x66, x67, x68]; rfl))
    | ((first | apply Ops.g1 | apply Drs.g1); case e => (simp (disch := omega) only [evs, evt, Int.reduceToNat, Int.reduceEq, Int.reduceLT, Int.reduceLE, decide_true, decide_false, Nat.reduceEqDiff, Nat.reduceLT, reduceIte, hrow13.rdA, fa, fb, fn, fi, f9, f10, f11, f12, x66, x67, x68]))
    | ((first | apply Ops.g0t | apply Ops.g0f | apply Drs.g0t | apply Drs.g0f); case e => (simp (disch := omega) only [evs, evt, Int.reduceToNat, Int.reduceEq, Int.reduceLT, Int.reduceLE, decide_true, decide_false, Nat.reduceEqDiff, Nat.reduceLT, reduceIte, hrow13.rdA, fa, fb, fn, fi, f9, f10, f11, f12, x66, x67, x68]))
    | ((first | apply Ops.g0u | apply Drs.g0u); case e => (simp (disch := omega) only [evs, evt, Int.reduceToNat, Int.reduceEq, Int.reduceLT, Int.reduceLE, decide_true, decide_false, Nat.reduceEqDiff, Nat.reduceLT, reduceIte, hrow13.rdA, fa, fb, fn, fi, f9, f10, f11, f12, x66, x67, x68]))
    | apply Ok.seq
    | apply Ok.block
    | (apply Ok.ops (S := Sx))
    | (apply Ok.condT; case e => (simp (disch := omega) only [evs, evt, Int.reduceToNat, Int.reduceEq, Int.reduceLT, Int.reduceLE, decide_true, decide_false, Nat.reduceEqDiff, Nat.reduceLT, reduceIte, hrow13.rdA, fa, fb, fn, fi, f9, f10, f11, f12, x66, x67, x68]))
    | (apply Ok.condF; case e => (simp (disch := omega) only [evs, evt, Int.reduceToNat, Int.reduceEq, Int.reduceLT, Int.reduceLE, decide_true, decide_false, Nat.reduceEqDiff, Nat.reduceLT, reduceIte, hrow13.rdA, fa, fb, fn, fi, f9, f10, f11, f12, x66, x67, x68]))
    | ((first | apply Ops.nil | apply Drs.nil | apply Ok.skip | apply Ok.exit | apply Ok.ret); try simp only [Then_n, Then_e, Then_r, Out_n, Out_e, Out_r, Nat.reduceEqDiff, reduceIte])
    | (apply Ok.drs (S := Sx) hmix)
    )
  apply Drs.callBar
  case e => (simp (disch := omega) only [evs, evt, Int.reduceToNat, Int.reduceEq, Int.reduceLT, Int.reduceLE, decide_true, decide_false, Nat.reduceEqDiff, Nat.reduceLT, reduceIte, cond_true, cond_false, List.map_cons, List.map_nil, Nat.reduceAdd, fa, fb, fn, fi, f9, f10, f11, f12, x66, x67, x68]; rfl)
  case hf => rw [hSx]; exact sl_rbelow hM13 hs hrl hf13 a
  case k =>
  intro y14 h14 hy
  rw [hSx] at hy
  obtain ⟨hl14, s14⟩ := hy _ rfl
  have hq14 : Il h14 y14 (belowL M a) := hl14.il
  clear hl14
  have hp14 := hq13.grow s14
  have hrow14 := hrow13.grow s14 hlt13
  have hlt14 := Nat.lt_of_lt_of_le hlt13 s14.next
  have hM14 := hM13.grow s14
  have hf14 := s14.fl hf13
  repeat (first
    | ((first | apply Ops.op | apply Ops.op0 | apply Drs.bar | apply Drs.pure); case e => (intro k; simp (disch := omega) only [evs, evt, Int.reduceToNat, Int.reduceEq, Int.reduceLT, Int.reduceLE, decide_true, decide_false, Nat.reduceEqDiff, Nat.reduceLT, reduceIte, cond_true, cond_false, Nat.reduceAdd, hrow14.rdA, fa, fb, fn, fi, f9, f10, f11, f12, x66, x67, x68]; rfl))
    | ((first | apply Ops.g1 | apply Drs.g1); case e => (simp (disch := omega) only [evs, evt, Int.reduceToNat, Int.reduceEq, Int.reduceLT, Int.reduceLE, decide_true, decide_false, Nat.reduceEqDiff, Nat.reduceLT, reduceIte, hrow14.rdA, fa, fb, fn, fi, f9, f10, f11, f12, x66, x67, x68]))
    | ((first | apply Ops.g0t | apply Ops.g0f | apply Drs.g0t | apply Drs.g0f); case e => (simp (disch := omega) only [evs, evt, Int.reduceToNat, Int.reduceEq, Int.reduceLT, Int.reduceLE, decide_true, decide_false, Nat.reduceEqDiff, Nat.reduceLT, reduceIte, hrow14.rdA, fa, fb, fn, fi, f9, f10, f11, f12, x66, x67, x68]))
    | ((first | apply Ops.g0u | apply Drs.g0u); case e => (simp (disch := omega) only [evs, evt, Int.reduceToNat, Int.reduceEq, Int.reduceLT, Int.reduceLE, decide_true, decide_false, Nat.reduceEqDiff, Nat.reduceLT, reduceIte, hrow14.rdA, fa, fb, fn, fi, f9, f10, f11, f12, x66, x67, x68]))
    | apply Ok.seq
    | apply Ok.block
    | (apply Ok.ops (S := Sx))
    | (apply Ok.condT; case e => (simp (disch := omega) only [evs, evt, Int.reduceToNat, Int.reduceEq, Int.reduceLT, Int.reduceLE, decide_true, decide_false, Nat.reduceEqDiff, Nat.reduceLT, reduceIte, hrow14.rdA, fa, fb, fn, fi, f9, f10, f11, f12, x66, x67, x68]))
    | (apply Ok.condF; case e => (simp (disch := omega) only [evs, evt, Int.reduceToNat, Int.reduceEq, Int.reduceLT, Int.reduceLE, decide_true, decide_false, Nat.reduceEqDiff, Nat.reduceLT, reduceIte, hrow14.rdA, fa, fb, fn, fi, f9, f10, f11, f12, x66, x67, x68]))
    | ((first | apply Ops.nil | apply Drs.nil | apply Ok.skip | apply Ok.exit | apply Ok.ret); try simp only [Then_n, Then_e, Then_r, Out_n, Out_e, Out_r, Nat.reduceEqDiff, reduceIte])
    | (apply Ok.drs (S := Sx) hmix)
    )
  apply Drs.callBar
  case e => (simp (disch := omega) only [evs, evt, Int.reduceToNat, Int.reduceEq, Int.reduceLT, Int.reduceLE, decide_true, decide_false, Nat.reduceEqDiff, Nat.reduceLT, reduceIte, cond_true, cond_false, List.map_cons, List.map_nil, Nat.reduceAdd, fa, fb, fn, fi, f9, f10, f11, f12, x66, x67, x68]; rfl)
  case hf => rw [hSx]; exact sl_same hp14 hq14 (Nat.le_trans (belowL_len M a) hs)
  case k =>
  intro y15 h15 hy
  rw [hSx] at hy
  obtain ⟨rfl, s15⟩ := hy
  have hrow15 := hrow14.grow s15 hlt14
  have hlt15 := Nat.lt_of_lt_of_le hlt14 s15.next
  have hM15 := hM14.grow s15
  have hf15 := s15.fl hf14
  repeat (first
    | ((first | apply Ops.op | apply Ops.op0 | apply Drs.bar | apply Drs.pure); case e => (intro k; simp (disch := omega) only [evs, evt, Int.reduceToNat, Int.reduceEq, Int.reduceLT, Int.reduceLE, decide_true, decide_false, Nat.reduceEqDiff, Nat.reduceLT, reduceIte, cond_true, cond_false, Nat.reduceAdd, hrow15.rdA, fa, fb, fn, fi, f9, f10, f11, f12, x66, x67, x68, Bool.xor_self]; rfl))
    | ((first | apply Ops.g1 | apply Drs.g1); case e => (simp (disch := omega) only [evs, evt, Int.reduceToNat, Int.reduceEq, Int.reduceLT, Int.reduceLE, decide_true, decide_false, Nat.reduceEqDiff, Nat.reduceLT, reduceIte, hrow15.rdA, fa, fb, fn, fi, f9, f10, f11, f12, x66, x67, x68, Bool.xor_self]))
    | ((first | apply Ops.g0t | apply Ops.g0f | apply Drs.g0t | apply Drs.g0f); case e => (simp (disch := omega) only [evs, evt, Int.reduceToNat, Int.reduceEq, Int.reduceLT, Int.reduceLE, decide_true, decide_false, Nat.reduceEqDiff, Nat.reduceLT, reduceIte, hrow15.rdA, fa, fb, fn, fi, f9, f10, f11, f12, x66, x67, x68, Bool.xor_self]))
    | ((first | apply Ops.g0u | apply Drs.g0u); case e => (simp (disch := omega) only [evs, evt, Int.reduceToNat, Int.reduceEq, Int.reduceLT, Int.reduceLE, decide_true, decide_false, Nat.reduceEqDiff, Nat.reduceLT, reduceIte, hrow15.rdA, fa, fb, fn, fi, f9, f10, f11, f12, x66, x67, x68, Bool.xor_self]))
    | apply Ok.seq
    | apply Ok.block
    | (apply Ok.ops (S := Sx))
    | (apply Ok.condT; case e => (simp (disch := omega) only [evs, evt, Int.reduceToNat, Int.reduceEq, Int.reduceLT, Int.reduceLE, decide_true, decide_false, Nat.reduceEqDiff, Nat.reduceLT, reduceIte, hrow15.rdA, fa, fb, fn, fi, f9, f10, f11, f12, x66, x67, x68, Bool.xor_self]))
    | (apply Ok.condF; case e => (simp (disch := omega) only [evs, evt, Int.reduceToNat, Int.reduceEq, Int.reduceLT, Int.reduceLE, decide_true, decide_false, Nat.reduceEqDiff, Nat.reduceLT, reduceIte, hrow15.rdA, fa, fb, fn, fi, f9, f10, f11, f12, x66, x67, x68, Bool.xor_self]))
    | ((first | apply Ops.nil | apply Drs.nil | apply Ok.skip | apply Ok.exit | apply Ok.ret); try simp only [Then_n, Then_e, Then_r, Out_n, Out_e, Out_r, Nat.reduceEqDiff, reduceIte])
    | (apply Ok.drs (S := Sx) hmix)
    )
  refine Drs.forget (fun t => get 1 t = .i .i64 a ∧ get 2 t = .i .i64 b ∧ get 3 t = .i .i64 n ∧ get 4 t = .p id 0 0 1 ∧ get 9 t = .i .i64 (joinP M a b).1 ∧ get 10 t = .b (joinP M a b).2 ∧ get 11 t = .i .i64 (joinP M a b).1 ∧ get 12 t = .b (joinP M a b).2 ∧ get 75 t = .b true ∧ get 76 t = .a [v] ∧ get 77 t = .i .i64 a) ⟨by simp (disch := omega) only [evs, evt, Int.reduceToNat, Int.reduceEq, Int.reduceLT, Int.reduceLE, decide_true, decide_false, Nat.reduceEqDiff, Nat.reduceLT, reduceIte, cond_true, cond_false, List.map_cons, List.map_nil, Nat.reduceAdd, fa, fb, fn, fi, f9, f10, f11, f12, Bool.xor_self], by simp (disch := omega) only [evs, evt, Int.reduceToNat, Int.reduceEq, Int.reduceLT, Int.reduceLE, decide_true, decide_false, Nat.reduceEqDiff, Nat.reduceLT, reduceIte, cond_true, cond_false, List.map_cons, List.map_nil, Nat.reduceAdd, fa, fb, fn, fi, f9, f10, f11, f12, Bool.xor_self], by simp (disch := omega) only [evs, evt, Int.reduceToNat, Int.reduceEq, Int.reduceLT, Int.reduceLE, decide_true, decide_false, Nat.reduceEqDiff, Nat.reduceLT, reduceIte, cond_true, cond_false, List.map_cons, List.map_nil, Nat.reduceAdd, fa, fb, fn, fi, f9, f10, f11, f12, Bool.xor_self], by simp (disch := omega) only [evs, evt, Int.reduceToNat, Int.reduceEq, Int.reduceLT, Int.reduceLE, decide_true, decide_false, Nat.reduceEqDiff, Nat.reduceLT, reduceIte, cond_true, cond_false, List.map_cons, List.map_nil, Nat.reduceAdd, fa, fb, fn, fi, f9, f10, f11, f12, Bool.xor_self], by simp (disch := omega) only [evs, evt, Int.reduceToNat, Int.reduceEq, Int.reduceLT, Int.reduceLE, decide_true, decide_false, Nat.reduceEqDiff, Nat.reduceLT, reduceIte, cond_true, cond_false, List.map_cons, List.map_nil, Nat.reduceAdd, fa, fb, fn, fi, f9, f10, f11, f12, Bool.xor_self], by simp (disch := omega) only [evs, evt, Int.reduceToNat, Int.reduceEq, Int.reduceLT, Int.reduceLE, decide_true, decide_false, Nat.reduceEqDiff, Nat.reduceLT, reduceIte, cond_true, cond_false, List.map_cons, List.map_nil, Nat.reduceAdd, fa, fb, fn, fi, f9, f10, f11, f12, Bool.xor_self], by simp (disch := omega) only [evs, evt, Int.reduceToNat, Int.reduceEq, Int.reduceLT, Int.reduceLE, decide_true, decide_false, Nat.reduceEqDiff, Nat.reduceLT, reduceIte, cond_true, cond_false, List.map_cons, List.map_nil, Nat.reduceAdd, fa, fb, fn, fi, f9, f10, f11, f12, Bool.xor_self], by simp (disch := omega) only [evs, evt, Int.reduceToNat, Int.reduceEq, Int.reduceLT, Int.reduceLE, decide_true, decide_false, Nat.reduceEqDiff, Nat.reduceLT, reduceIte, cond_true, cond_false, List.map_cons, List.map_nil, Nat.reduceAdd, fa, fb, fn, fi, f9, f10, f11, f12, Bool.xor_self], by simp (disch := omega) only [evs, evt, Int.reduceToNat, Int.reduceEq, Int.reduceLT, Int.reduceLE, decide_true, decide_false, Nat.reduceEqDiff, Nat.reduceLT, reduceIte, cond_true, cond_false, List.map_cons, List.map_nil, Nat.reduceAdd, fa, fb, fn, fi, f9, f10, f11, f12, Bool.xor_self], by simp (disch := omega) only [evs, evt, Int.reduceToNat, Int.reduceEq, Int.reduceLT, Int.reduceLE, decide_true, decide_false, Nat.reduceEqDiff, Nat.reduceLT, reduceIte, cond_true, cond_false, List.map_cons, List.map_nil, Nat.reduceAdd, fa, fb, fn, fi, f9, f10, f11, f12, Bool.xor_self], by simp (disch := omega) only [evs, evt, Int.reduceToNat, Int.reduceEq, Int.reduceLT, Int.reduceLE, decide_true, decide_false, Nat.reduceEqDiff, Nat.reduceLT, reduceIte, cond_true, cond_false, List.map_cons, List.map_nil, Nat.reduceAdd, fa, fb, fn, fi, f9, f10, f11, f12, Bool.xor_self]⟩ ?_
  clear fa fb fn fi f9 f10 f11 f12
  rintro t ⟨fa, fb, fn, fi, f9, f10, f11, f12, x75, x76, x77⟩
  apply Drs.call
  case e => (simp (disch := omega) only [evs, evt, Int.reduceToNat, Int.reduceEq, Int.reduceLT, Int.reduceLE, decide_true, decide_false, Nat.reduceEqDiff, Nat.reduceLT, reduceIte, cond_true, cond_false, List.map_cons, List.map_nil, Nat.reduceAdd, fa, fb, fn, fi, f9, f10, f11, f12, x75, x76, x77]; rfl)
  case hf => rw [hSx]; exact sl_covers (Mx.refl_floor' hM15) hs (by rw [reFloor_floor, reFloor_next]; exact Nat.le_refl _) a
  case k =>
  intro y16 h16 hy
  rw [hSx] at hy
  obtain ⟨hl16, s16⟩ := hy _ rfl
  replace s16 := s16.unfloor
  have hq16 : Il (unFloor h15 h16) y16 (coversL M a) := Lst.unfloor hl16.il
  clear hl16
  generalize unFloor h15 h16 = h16 at *
  have hrow16 := hrow15.grow s16 hlt15
  have hlt16 := Nat.lt_of_lt_of_le hlt15 s16.next
  have hM16 := hM15.grow s16
  have hf16 := s16.fl hf15
  repeat (first
    | ((first | apply Ops.op | apply Ops.op0 | apply Drs.bar | apply Drs.pure); case e => (intro k; simp (disch := omega) only [evs, evt, Int.reduceToNat, Int.reduceEq, Int.reduceLT, Int.reduceLE, decide_true, decide_false, Nat.reduceEqDiff, Nat.reduceLT, reduceIte, cond_true, cond_false, Nat.reduceAdd, hrow16.rdA, fa, fb, fn, fi, f9, f10, f11, f12, x75, x76, x77]; rfl))
    | ((first | apply Ops.g1 | apply Drs.g1); case e => (simp (disch := omega) only [evs, evt, Int.reduceToNat, Int.reduceEq, Int.reduceLT, Int.reduceLE, decide_true, decide_false, Nat.reduceEqDiff, Nat.reduceLT, reduceIte, hrow16.rdA, fa, fb, fn, fi, f9, f10, f11, f12, x75, x76, x77]))
    | ((first | apply Ops.g0t | apply Ops.g0f | apply Drs.g0t | apply Drs.g0f); case e => (simp (disch := omega) only [evs, evt, Int.reduceToNat, Int.reduceEq, Int.reduceLT, Int.reduceLE, decide_true, decide_false, Nat.reduceEqDiff, Nat.reduceLT, reduceIte, hrow16.rdA, fa, fb, fn, fi, f9, f10, f11, f12, x75, x76, x77]))
    | ((first | apply Ops.g0u | apply Drs.g0u); case e => (simp (disch := omega) only [evs, evt, Int.reduceToNat, Int.reduceEq, Int.reduceLT, Int.reduceLE, decide_true, decide_false, Nat.reduceEqDiff, Nat.reduceLT, reduceIte, hrow16.rdA, fa, fb, fn, fi, f9, f10, f11, f12, x75, x76, x77]))
    | apply Ok.seq
    | apply Ok.block
    | (apply Ok.ops (S := Sx))
    | (apply Ok.condT; case e => (simp (disch := omega) only [evs, evt, Int.reduceToNat, Int.reduceEq, Int.reduceLT, Int.reduceLE, decide_true, decide_false, Nat.reduceEqDiff, Nat.reduceLT, reduceIte, hrow16.rdA, fa, fb, fn, fi, f9, f10, f11, f12, x75, x76, x77]))
    | (apply Ok.condF; case e => (simp (disch := omega) only [evs, evt, Int.reduceToNat, Int.reduceEq, Int.reduceLT, Int.reduceLE, decide_true, decide_false, Nat.reduceEqDiff, Nat.reduceLT, reduceIte, hrow16.rdA, fa, fb, fn, fi, f9, f10, f11, f12, x75, x76, x77]))
    | ((first | apply Ops.nil | apply Drs.nil | apply Ok.skip | apply Ok.exit | apply Ok.ret); try simp only [Then_n, Then_e, Then_r, Out_n, Out_e, Out_r, Nat.reduceEqDiff, reduceIte])
    | (apply Ok.drs (S := Sx) hmix)
    )
  apply Drs.callBar
  case e => (simp (disch := omega) only [evs, evt, Int.reduceToNat, Int.reduceEq, Int.reduceLT, Int.reduceLE, decide_true, decide_false, Nat.reduceEqDiff, Nat.reduceLT, reduceIte, cond_true, cond_false, List.map_cons, List.map_nil, Nat.reduceAdd, fa, fb, fn, fi, f9, f10, f11, f12, x75, x76, x77]; rfl)
  case hf => rw [hSx]; exact sl_rcovers hM16 hs hrl hf16 a
  case k =>
  intro y17 h17 hy
  rw [hSx] at hy
  obtain ⟨hl17, s17⟩ := hy _ rfl
  have hq17 : Il h17 y17 (coversL M a) := hl17.il
  clear hl17
  have hp17 := hq16.grow s17
  have hrow17 := hrow16.grow s17 hlt16
  have hlt17 := Nat.lt_of_lt_of_le hlt16 s17.next
  have hM17 := hM16.grow s17
  have hf17 := s17.fl hf16
  repeat (first
    | ((first | apply Ops.op | apply Ops.op0 | apply Drs.bar | apply Drs.pure); case e => (intro k; simp (disch := omega) only [evs, evt, Int.reduceToNat, Int.reduceEq, Int.reduceLT, Int.reduceLE, decide_true, decide_false, Nat.reduceEqDiff, Nat.reduceLT, reduceIte, cond_true, cond_false, Nat.reduceAdd, hrow17.rdA, fa, fb, fn, fi, f9, f10, f11, f12, x75, x76, x77]; rfl))
    | ((first | apply Ops.g1 | apply Drs.g1); case e => (simp (disch := omega) only [evs, evt, Int.reduceToNat, Int.reduceEq, Int.reduceLT, Int.reduceLE, decide_true, decide_false, Nat.reduceEqDiff, Nat.reduceLT, reduceIte, hrow17.rdA, fa, fb, fn, fi, f9, f10, f11, f12, x75, x76, x77]))
    | ((first | apply Ops.g0t | apply Ops.g0f | apply Drs.g0t | apply Drs.g0f); case e => (simp (disch := omega) only [evs, evt, Int.reduceToNat, Int.reduceEq, Int.reduceLT, Int.reduceLE, decide_true, decide_false, Nat.reduceEqDiff, Nat.reduceLT, reduceIte, hrow17.rdA, fa, fb, fn, fi, f9, f10, f11, f12, x75, x76, x77]))
    | ((first | apply Ops.g0u | apply Drs.g0u); case e => (simp (disch := omega) only [evs, evt, Int.reduceToNat, Int.reduceEq, Int.reduceLT, Int.reduceLE, decide_true, decide_false, Nat.reduceEqDiff, Nat.reduceLT, reduceIte, hrow17.rdA, fa, fb, fn, fi, f9, f10, f11, f12, x75, x76, x77]))
    | apply Ok.seq
    | apply Ok.block
    | (apply Ok.ops (S := Sx))
    | (apply Ok.condT; case e => (simp (disch := omega) only [evs, evt, Int.reduceToNat, Int.reduceEq, Int.reduceLT, Int.reduceLE, decide_true, decide_false, Nat.reduceEqDiff, Nat.reduceLT, reduceIte, hrow17.rdA, fa, fb, fn, fi, f9, f10, f11, f12, x75, x76, x77]))
    | (apply Ok.condF; case e => (simp (disch := omega) only [evs, evt, Int.reduceToNat, Int.reduceEq, Int.reduceLT, Int.reduceLE, decide_true, decide_false, Nat.reduceEqDiff, Nat.reduceLT, reduceIte, hrow17.rdA, fa, fb, fn, fi, f9, f10, f11, f12, x75, x76, x77]))
    | ((first | apply Ops.nil | apply Drs.nil | apply Ok.skip | apply Ok.exit | apply Ok.ret); try simp only [Then_n, Then_e, Then_r, Out_n, Out_e, Out_r, Nat.reduceEqDiff, reduceIte])
    | (apply Ok.drs (S := Sx) hmix)
    )
  apply Drs.callBar
  case e => (simp (disch := omega) only [evs, evt, Int.reduceToNat, Int.reduceEq, Int.reduceLT, Int.reduceLE, decide_true, decide_false, Nat.reduceEqDiff, Nat.reduceLT, reduceIte, cond_true, cond_false, List.map_cons, List.map_nil, Nat.reduceAdd, fa, fb, fn, fi, f9, f10, f11, f12, x75, x76, x77]; rfl)
  case hf => rw [hSx]; exact sl_same hp17 hq17 (Nat.le_trans (covers_le (M := M) a) (Nat.le_trans (belowL_len M a) hs))
  case k =>
  intro y18 h18 hy
  rw [hSx] at hy
  obtain ⟨rfl, s18⟩ := hy
  have hrow18 := hrow17.grow s18 hlt17
  have hlt18 := Nat.lt_of_lt_of_le hlt17 s18.next
  have hM18 := hM17.grow s18
  have hf18 := s18.fl hf17
  repeat (first
    | ((first | apply Ops.op | apply Ops.op0 | apply Drs.bar | apply Drs.pure); case e => (intro k; simp (disch := omega) only [evs, evt, Int.reduceToNat, Int.reduceEq, Int.reduceLT, Int.reduceLE, decide_true, decide_false, Nat.reduceEqDiff, Nat.reduceLT, reduceIte, cond_true, cond_false, Nat.reduceAdd, hrow18.rdA, fa, fb, fn, fi, f9, f10, f11, f12, x75, x76, x77, Bool.xor_self]; rfl))
    | ((first | apply Ops.g1 | apply Drs.g1); case e => (simp (disch := omega) only [evs, evt, Int.reduceToNat, Int.reduceEq, Int.reduceLT, Int.reduceLE, decide_true, decide_false, Nat.reduceEqDiff, Nat.reduceLT, reduceIte, hrow18.rdA, fa, fb, fn, fi, f9, f10, f11, f12, x75, x76, x77, Bool.xor_self]))
    | ((first | apply Ops.g0t | apply Ops.g0f | apply Drs.g0t | apply Drs.g0f); case e => (simp (disch := omega) only [evs, evt, Int.reduceToNat, Int.reduceEq, Int.reduceLT, Int.reduceLE, decide_true, decide_false, Nat.reduceEqDiff, Nat.reduceLT, reduceIte, hrow18.rdA, fa, fb, fn, fi, f9, f10, f11, f12, x75, x76, x77, Bool.xor_self]))
    | ((first | apply Ops.g0u | apply Drs.g0u); case e => (simp (disch := omega) only [evs, evt, Int.reduceToNat, Int.reduceEq, Int.reduceLT, Int.reduceLE, decide_true, decide_false, Nat.reduceEqDiff, Nat.reduceLT, reduceIte, hrow18.rdA, fa, fb, fn, fi, f9, f10, f11, f12, x75, x76, x77, Bool.xor_self]))
    | apply Ok.seq
    | apply Ok.block
    | (apply Ok.ops (S := Sx))
    | (apply Ok.condT; case e => (simp (disch := omega) only [evs, evt, Int.reduceToNat, Int.reduceEq, Int.reduceLT, Int.reduceLE, decide_true, decide_false, Nat.reduceEqDiff, Nat.reduceLT, reduceIte, hrow18.rdA, fa, fb, fn, fi, f9, f10, f11, f12, x75, x76, x77, Bool.xor_self]))
    | (apply Ok.condF; case e => (simp (disch := omega) only [evs, evt, Int.reduceToNat, Int.reduceEq, Int.reduceLT, Int.reduceLE, decide_true, decide_false, Nat.reduceEqDiff, Nat.reduceLT, reduceIte, hrow18.rdA, fa, fb, fn, fi, f9, f10, f11, f12, x75, x76, x77, Bool.xor_self]))
    | ((first | apply Ops.nil | apply Drs.nil | apply Ok.skip | apply Ok.exit | apply Ok.ret); try simp only [Then_n, Then_e, Then_r, Out_n, Out_e, Out_r, Nat.reduceEqDiff, reduceIte])
    | (apply Ok.drs (S := Sx) hmix)
    )
  refine Drs.forget (fun t => get 1 t = .i .i64 a ∧ get 2 t = .i .i64 b ∧ get 3 t = .i .i64 n ∧ get 4 t = .p id 0 0 1 ∧ get 9 t = .i .i64 (joinP M a b).1 ∧ get 10 t = .b (joinP M a b).2 ∧ get 11 t = .i .i64 (joinP M a b).1 ∧ get 12 t = .b (joinP M a b).2 ∧ get 84 t = .b true ∧ get 85 t = .a [v]) ⟨by simp (disch := omega) only [evs, evt, Int.reduceToNat, Int.reduceEq, Int.reduceLT, Int.reduceLE, decide_true, decide_false, Nat.reduceEqDiff, Nat.reduceLT, reduceIte, cond_true, cond_false, List.map_cons, List.map_nil, Nat.reduceAdd, fa, fb, fn, fi, f9, f10, f11, f12, Bool.xor_self], by simp (disch := omega) only [evs, evt, Int.reduceToNat, Int.reduceEq, Int.reduceLT, Int.reduceLE, decide_true, decide_false, Nat.reduceEqDiff, Nat.reduceLT, reduceIte, cond_true, cond_false, List.map_cons, List.map_nil, Nat.reduceAdd, fa, fb, fn, fi, f9, f10, f11, f12, Bool.xor_self], by simp (disch := omega) only [evs, evt, Int.reduceToNat, Int.reduceEq, Int.reduceLT, Int.reduceLE, decide_true, decide_false, Nat.reduceEqDiff, Nat.reduceLT, reduceIte, cond_true, cond_false, List.map_cons, List.map_nil, Nat.reduceAdd, fa, fb, fn, fi, f9, f10, f11, f12, Bool.xor_self], by simp (disch := omega) only [evs, evt, Int.reduceToNat, Int.reduceEq, Int.reduceLT, Int.reduceLE, decide_true, decide_false, Nat.reduceEqDiff, Nat.reduceLT, reduceIte, cond_true, cond_false, List.map_cons, List.map_nil, Nat.reduceAdd, fa, fb, fn, fi, f9, f10, f11, f12, Bool.xor_self], by simp (disch := omega) only [evs, evt, Int.reduceToNat, Int.reduceEq, Int.reduceLT, Int.reduceLE, decide_true, decide_false, Nat.reduceEqDiff, Nat.reduceLT, reduceIte, cond_true, cond_false, List.map_cons, List.map_nil, Nat.reduceAdd, fa, fb, fn, fi, f9, f10, f11, f12, Bool.xor_self], by simp (disch := omega) only [evs, evt, Int.reduceToNat, Int.reduceEq, Int.reduceLT, Int.reduceLE, decide_true, decide_false, Nat.reduceEqDiff, Nat.reduceLT, reduceIte, cond_true, cond_false, List.map_cons, List.map_nil, Nat.reduceAdd, fa, fb, fn, fi, f9, f10, f11, f12, Bool.xor_self], by simp (disch := omega) only [evs, evt, Int.reduceToNat, Int.reduceEq, Int.reduceLT, Int.reduceLE, decide_true, decide_false, Nat.reduceEqDiff, Nat.reduceLT, reduceIte, cond_true, cond_false, List.map_cons, List.map_nil, Nat.reduceAdd, fa, fb, fn, fi, f9, f10, f11, f12, Bool.xor_self], by simp (disch := omega) only [evs, evt, Int.reduceToNat, Int.reduceEq, Int.reduceLT, Int.reduceLE, decide_true, decide_false, Nat.reduceEqDiff, Nat.reduceLT, reduceIte, cond_true, cond_false, List.map_cons, List.map_nil, Nat.reduceAdd, fa, fb, fn, fi, f9, f10, f11, f12, Bool.xor_self], by simp (disch := omega) only [evs, evt, Int.reduceToNat, Int.reduceEq, Int.reduceLT, Int.reduceLE, decide_true, decide_false, Nat.reduceEqDiff, Nat.reduceLT, reduceIte, cond_true, cond_false, List.map_cons, List.map_nil, Nat.reduceAdd, fa, fb, fn, fi, f9, f10, f11, f12, Bool.xor_self], by simp (disch := omega) only [evs, evt, Int.reduceToNat, Int.reduceEq, Int.reduceLT, Int.reduceLE, decide_true, decide_false, Nat.reduceEqDiff, Nat.reduceLT, reduceIte, cond_true, cond_false, List.map_cons, List.map_nil, Nat.reduceAdd, fa, fb, fn, fi, f9, f10, f11, f12, Bool.xor_self]⟩ ?_
  clear fa fb fn fi f9 f10 f11 f12
  rintro t ⟨fa, fb, fn, fi, f9, f10, f11, f12, x84, x85⟩
  apply Drs.call
  case e => (simp (disch := omega) only [evs, evt, Int.reduceToNat, Int.reduceEq, Int.reduceLT, Int.reduceLE, decide_true, decide_false, Nat.reduceEqDiff, Nat.reduceLT, reduceIte, cond_true, cond_false, List.map_cons, List.map_nil, Nat.reduceAdd, fa, fb, fn, fi, f9, f10, f11, f12, x84, x85]; rfl)
  case hf => rw [hSx]; exact sl_order (Mx.refl_floor' hM18) hs (by rw [reFloor_floor, reFloor_next]; exact Nat.le_refl _)
  case k =>
  intro y19 h19 hy
  rw [hSx] at hy
  obtain ⟨hl19, s19⟩ := hy
  replace s19 := s19.unfloor
  have hq19 : Il (unFloor h18 h19) y19 (orderL M) := Lst.unfloor hl19
  clear hl19
  generalize unFloor h18 h19 = h19 at *
  have hrow19 := hrow18.grow s19 hlt18
  have hlt19 := Nat.lt_of_lt_of_le hlt18 s19.next
  have hM19 := hM18.grow s19
  have hf19 := s19.fl hf18
  repeat (first
    | ((first | apply Ops.op | apply Ops.op0 | apply Drs.bar | apply Drs.pure); case e => (intro k; simp (disch := omega) only [evs, evt, Int.reduceToNat, Int.reduceEq, Int.reduceLT, Int.reduceLE, decide_true, decide_false, Nat.reduceEqDiff, Nat.reduceLT, reduceIte, cond_true, cond_false, Nat.reduceAdd, hrow19.rdA, fa, fb, fn, fi, f9, f10, f11, f12, x84, x85]; rfl))
    | ((first | apply Ops.g1 | apply Drs.g1); case e => (simp (disch := omega) only [evs, evt, Int.reduceToNat, Int.reduceEq, Int.reduceLT, Int.reduceLE, decide_true, decide_false, Nat.reduceEqDiff, Nat.reduceLT, reduceIte, hrow19.rdA, fa, fb, fn, fi, f9, f10, f11, f12, x84, x85]))
    | ((first | apply Ops.g0t | apply Ops.g0f | apply Drs.g0t | apply Drs.g0f); case e => (simp (disch := omega) only [evs, evt, Int.reduceToNat, Int.reduceEq, Int.reduceLT, Int.reduceLE, decide_true, decide_false, Nat.reduceEqDiff, Nat.reduceLT, reduceIte, hrow19.rdA, fa, fb, fn, fi, f9, f10, f11, f12, x84, x85]))
    | ((first | apply Ops.g0u | apply Drs.g0u); case e => (simp (disch := omega) only [evs, evt, Int.reduceToNat, Int.reduceEq, Int.reduceLT, Int.reduceLE, decide_true, decide_false, Nat.reduceEqDiff, Nat.reduceLT, reduceIte, hrow19.rdA, fa, fb, fn, fi, f9, f10, f11, f12, x84, x85]))
    | apply Ok.seq
    | apply Ok.block
    | (apply Ok.ops (S := Sx))
    | (apply Ok.condT; case e => (simp (disch := omega) only [evs, evt, Int.reduceToNat, Int.reduceEq, Int.reduceLT, Int.reduceLE, decide_true, decide_false, Nat.reduceEqDiff, Nat.reduceLT, reduceIte, hrow19.rdA, fa, fb, fn, fi, f9, f10, f11, f12, x84, x85]))
    | (apply Ok.condF; case e => (simp (disch := omega) only [evs, evt, Int.reduceToNat, Int.reduceEq, Int.reduceLT, Int.reduceLE, decide_true, decide_false, Nat.reduceEqDiff, Nat.reduceLT, reduceIte, hrow19.rdA, fa, fb, fn, fi, f9, f10, f11, f12, x84, x85]))
    | ((first | apply Ops.nil | apply Drs.nil | apply Ok.skip | apply Ok.exit | apply Ok.ret); try simp only [Then_n, Then_e, Then_r, Out_n, Out_e, Out_r, Nat.reduceEqDiff, reduceIte])
    | (apply Ok.drs (S := Sx) hmix)
    )
  apply Drs.callBar
  case e => (simp (disch := omega) only [evs, evt, Int.reduceToNat, Int.reduceEq, Int.reduceLT, Int.reduceLE, decide_true, decide_false, Nat.reduceEqDiff, Nat.reduceLT, reduceIte, cond_true, cond_false, List.map_cons, List.map_nil, Nat.reduceAdd, fa, fb, fn, fi, f9, f10, f11, f12, x84, x85]; rfl)
  case hf => rw [hSx]; exact sl_rorder hM19 hs hrl hf19
  case k =>
  intro y20 h20 hy
  rw [hSx] at hy
  obtain ⟨hl20, s20⟩ := hy
  have hq20 : Il h20 y20 (orderL M) := hl20
  clear hl20
  have hp20 := hq19.grow s20
  have hrow20 := hrow19.grow s20 hlt19
  have hlt20 := Nat.lt_of_lt_of_le hlt19 s20.next
  have hM20 := hM19.grow s20
  have hf20 := s20.fl hf19
  repeat (first
    | ((first | apply Ops.op | apply Ops.op0 | apply Drs.bar | apply Drs.pure); case e => (intro k; simp (disch := omega) only [evs, evt, Int.reduceToNat, Int.reduceEq, Int.reduceLT, Int.reduceLE, decide_true, decide_false, Nat.reduceEqDiff, Nat.reduceLT, reduceIte, cond_true, cond_false, Nat.reduceAdd, hrow20.rdA, fa, fb, fn, fi, f9, f10, f11, f12, x84, x85]; rfl))
    | ((first | apply Ops.g1 | apply Drs.g1); case e => (simp (disch := omega) only [evs, evt, Int.reduceToNat, Int.reduceEq, Int.reduceLT, Int.reduceLE, decide_true, decide_false, Nat.reduceEqDiff, Nat.reduceLT, reduceIte, hrow20.rdA, fa, fb, fn, fi, f9, f10, f11, f12, x84, x85]))
    | ((first | apply Ops.g0t | apply Ops.g0f | apply Drs.g0t | apply Drs.g0f); case e => (simp (disch := omega) only [evs, evt, Int.reduceToNat, Int.reduceEq, Int.reduceLT, Int.reduceLE, decide_true, decide_false, Nat.reduceEqDiff, Nat.reduceLT, reduceIte, hrow20.rdA, fa, fb, fn, fi, f9, f10, f11, f12, x84, x85]))
    | ((first | apply Ops.g0u | apply Drs.g0u); case e => (simp (disch := omega) only [evs, evt, Int.reduceToNat, Int.reduceEq, Int.reduceLT, Int.reduceLE, decide_true, decide_false, Nat.reduceEqDiff, Nat.reduceLT, reduceIte, hrow20.rdA, fa, fb, fn, fi, f9, f10, f11, f12, x84, x85]))
    | apply Ok.seq
    | apply Ok.block
    | (apply Ok.ops (S := Sx))
    | (apply Ok.condT; case e => (simp (disch := omega) only [evs, evt, Int.reduceToNat, Int.reduceEq, Int.reduceLT, Int.reduceLE, decide_true, decide_false, Nat.reduceEqDiff, Nat.reduceLT, reduceIte, hrow20.rdA, fa, fb, fn, fi, f9, f10, f11, f12, x84, x85]))
    | (apply Ok.condF; case e => (simp (disch := omega) only [evs, evt, Int.reduceToNat, Int.reduceEq, Int.reduceLT, Int.reduceLE, decide_true, decide_false, Nat.reduceEqDiff, Nat.reduceLT, reduceIte, hrow20.rdA, fa, fb, fn, fi, f9, f10, f11, f12, x84, x85]))
    | ((first | apply Ops.nil | apply Drs.nil | apply Ok.skip | apply Ok.exit | apply Ok.ret); try simp only [Then_n, Then_e, Then_r, Out_n, Out_e, Out_r, Nat.reduceEqDiff, reduceIte])
    | (apply Ok.drs (S := Sx) hmix)
    )
  apply Drs.callBar
  case e => (simp (disch := omega) only [evs, evt, Int.reduceToNat, Int.reduceEq, Int.reduceLT, Int.reduceLE, decide_true, decide_false, Nat.reduceEqDiff, Nat.reduceLT, reduceIte, cond_true, cond_false, List.map_cons, List.map_nil, Nat.reduceAdd, fa, fb, fn, fi, f9, f10, f11, f12, x84, x85]; rfl)
  case hf => rw [hSx]; exact sl_same hp20 hq20 (Nat.le_trans (ordN_len M (lvls M)).1 (Nat.le_trans lvls_le hs))
  case k =>
  intro y21 h21 hy
  rw [hSx] at hy
  obtain ⟨rfl, s21⟩ := hy
  have hrow21 := hrow20.grow s21 hlt20
  have hlt21 := Nat.lt_of_lt_of_le hlt20 s21.next
  have hM21 := hM20.grow s21
  have hf21 := s21.fl hf20
  repeat (first
    | ((first | apply Ops.op | apply Ops.op0 | apply Drs.bar | apply Drs.pure); case e => (intro k; simp (disch := omega) only [evs, evt, Int.reduceToNat, Int.reduceEq, Int.reduceLT, Int.reduceLE, decide_true, decide_false, Nat.reduceEqDiff, Nat.reduceLT, reduceIte, cond_true, cond_false, Nat.reduceAdd, hrow21.rdA, fa, fb, fn, fi, f9, f10, f11, f12, x84, x85, Bool.xor_self]; rfl))
    | ((first | apply Ops.g1 | apply Drs.g1); case e => (simp (disch := omega) only [evs, evt, Int.reduceToNat, Int.reduceEq, Int.reduceLT, Int.reduceLE, decide_true, decide_false, Nat.reduceEqDiff, Nat.reduceLT, reduceIte, hrow21.rdA, fa, fb, fn, fi, f9, f10, f11, f12, x84, x85, Bool.xor_self]))
    | ((first | apply Ops.g0t | apply Ops.g0f | apply Drs.g0t | apply Drs.g0f); case e => (simp (disch := omega) only [evs, evt, Int.reduceToNat, Int.reduceEq, Int.reduceLT, Int.reduceLE, decide_true, decide_false, Nat.reduceEqDiff, Nat.reduceLT, reduceIte, hrow21.rdA, fa, fb, fn, fi, f9, f10, f11, f12, x84, x85, Bool.xor_self]))
    | ((first | apply Ops.g0u | apply Drs.g0u); case e => (simp (disch := omega) only [evs, evt, Int.reduceToNat, Int.reduceEq, Int.reduceLT, Int.reduceLE, decide_true, decide_false, Nat.reduceEqDiff, Nat.reduceLT, reduceIte, hrow21.rdA, fa, fb, fn, fi, f9, f10, f11, f12, x84, x85, Bool.xor_self]))
    | apply Ok.seq
    | apply Ok.block
    | (apply Ok.ops (S := Sx))
    | (apply Ok.condT; case e => (simp (disch := omega) only [evs, evt, Int.reduceToNat, Int.reduceEq, Int.reduceLT, Int.reduceLE, decide_true, decide_false, Nat.reduceEqDiff, Nat.reduceLT, reduceIte, hrow21.rdA, fa, fb, fn, fi, f9, f10, f11, f12, x84, x85, Bool.xor_self]))
    | (apply Ok.condF; case e => (simp (disch := omega) only [evs, evt, Int.reduceToNat, Int.reduceEq, Int.reduceLT, Int.reduceLE, decide_true, decide_false, Nat.reduceEqDiff, Nat.reduceLT, reduceIte, hrow21.rdA, fa, fb, fn, fi, f9, f10, f11, f12, x84, x85, Bool.xor_self]))
    | ((first | apply Ops.nil | apply Drs.nil | apply Ok.skip | apply Ok.exit | apply Ok.ret); try simp only [Then_n, Then_e, Then_r, Out_n, Out_e, Out_r, Nat.reduceEqDiff, reduceIte])
    | (apply Ok.drs (S := Sx) hmix)
    )
  refine Drs.forget (fun t => get 1 t = .i .i64 a ∧ get 2 t = .i .i64 b ∧ get 3 t = .i .i64 n ∧ get 4 t = .p id 0 0 1 ∧ get 9 t = .i .i64 (joinP M a b).1 ∧ get 10 t = .b (joinP M a b).2 ∧ get 11 t = .i .i64 (joinP M a b).1 ∧ get 12 t = .b (joinP M a b).2 ∧ get 101 t = .b true ∧ get 102 t = .i .i64 n) ⟨by simp (disch := omega) only [evs, evt, Int.reduceToNat, Int.reduceEq, Int.reduceLT, Int.reduceLE, decide_true, decide_false, Nat.reduceEqDiff, Nat.reduceLT, reduceIte, cond_true, cond_false, List.map_cons, List.map_nil, Nat.reduceAdd, fa, fb, fn, fi, f9, f10, f11, f12, Bool.xor_self], by simp (disch := omega) only [evs, evt, Int.reduceToNat, Int.reduceEq, Int.reduceLT, Int.reduceLE, decide_true, decide_false, Nat.reduceEqDiff, Nat.reduceLT, reduceIte, cond_true, cond_false, List.map_cons, List.map_nil, Nat.reduceAdd, fa, fb, fn, fi, f9, f10, f11, f12, Bool.xor_self], by simp (disch := omega) only [evs, evt, Int.reduceToNat, Int.reduceEq, Int.reduceLT, Int.reduceLE, decide_true, decide_false, Nat.reduceEqDiff, Nat.reduceLT, reduceIte, cond_true, cond_false, List.map_cons, List.map_nil, Nat.reduceAdd, fa, fb, fn, fi, f9, f10, f11, f12, Bool.xor_self], by simp (disch := omega) only [evs, evt, Int.reduceToNat, Int.reduceEq, Int.reduceLT, Int.reduceLE, decide_true, decide_false, Nat.reduceEqDiff, Nat.reduceLT, reduceIte, cond_true, cond_false, List.map_cons, List.map_nil, Nat.reduceAdd, fa, fb, fn, fi, f9, f10, f11, f12, Bool.xor_self], by simp (disch := omega) only [evs, evt, Int.reduceToNat, Int.reduceEq, Int.reduceLT, Int.reduceLE, decide_true, decide_false, Nat.reduceEqDiff, Nat.reduceLT, reduceIte, cond_true, cond_false, List.map_cons, List.map_nil, Nat.reduceAdd, fa, fb, fn, fi, f9, f10, f11, f12, Bool.xor_self], by simp (disch := omega) only [evs, evt, Int.reduceToNat, Int.reduceEq, Int.reduceLT, Int.reduceLE, decide_true, decide_false, Nat.reduceEqDiff, Nat.reduceLT, reduceIte, cond_true, cond_false, List.map_cons, List.map_nil, Nat.reduceAdd, fa, fb, fn, fi, f9, f10, f11, f12, Bool.xor_self], by simp (disch := omega) only [evs, evt, Int.reduceToNat, Int.reduceEq, Int.reduceLT, Int.reduceLE, decide_true, decide_false, Nat.reduceEqDiff, Nat.reduceLT, reduceIte, cond_true, cond_false, List.map_cons, List.map_nil, Nat.reduceAdd, fa, fb, fn, fi, f9, f10, f11, f12, Bool.xor_self], by simp (disch := omega) only [evs, evt, Int.reduceToNat, Int.reduceEq, Int.reduceLT, Int.reduceLE, decide_true, decide_false, Nat.reduceEqDiff, Nat.reduceLT, reduceIte, cond_true, cond_false, List.map_cons, List.map_nil, Nat.reduceAdd, fa, fb, fn, fi, f9, f10, f11, f12, Bool.xor_self], by simp (disch := omega) only [evs, evt, Int.reduceToNat, Int.reduceEq, Int.reduceLT, Int.reduceLE, decide_true, decide_false, Nat.reduceEqDiff, Nat.reduceLT, reduceIte, cond_true, cond_false, List.map_cons, List.map_nil, Nat.reduceAdd, fa, fb, fn, fi, f9, f10, f11, f12, Bool.xor_self], by simp (disch := omega) only [evs, evt, Int.reduceToNat, Int.reduceEq, Int.reduceLT, Int.reduceLE, decide_true, decide_false, Nat.reduceEqDiff, Nat.reduceLT, reduceIte, cond_true, cond_false, List.map_cons, List.map_nil, Nat.reduceAdd, fa, fb, fn, fi, f9, f10, f11, f12, Bool.xor_self]⟩ ?_
  clear fa fb fn fi f9 f10 f11 f12
  rintro t ⟨fa, fb, fn, fi, f9, f10, f11, f12, x101, x102⟩
  apply Drs.callBar
  case e => (simp (disch := omega) only [evs, evt, Int.reduceToNat, Int.reduceEq, Int.reduceLT, Int.reduceLE, decide_true, decide_false, Nat.reduceEqDiff, Nat.reduceLT, reduceIte, cond_true, cond_false, List.map_cons, List.map_nil, Nat.reduceAdd, fa, fb, fn, fi, f9, f10, f11, f12, x101, x102]; rfl)
  case hf => rw [hSx, hk]; exact chain_ok hn1 hn hf21
  case k =>
  intro y22 h22 hy
  rw [hSx] at hy
  obtain ⟨w1, rfl, hc1, s22⟩ := hy
  have hf22 := s22.fl hf21
  repeat (first
    | ((first | apply Ops.op | apply Ops.op0 | apply Drs.bar | apply Drs.pure); case e => (intro k; simp (disch := omega) only [evs, evt, Int.reduceToNat, Int.reduceEq, Int.reduceLT, Int.reduceLE, decide_true, decide_false, Nat.reduceEqDiff, Nat.reduceLT, reduceIte, cond_true, cond_false, Nat.reduceAdd, fa, fb, fn, fi, f9, f10, f11, f12, x101, x102]; rfl))
    | ((first | apply Ops.g1 | apply Drs.g1); case e => (simp (disch := omega) only [evs, evt, Int.reduceToNat, Int.reduceEq, Int.reduceLT, Int.reduceLE, decide_true, decide_false, Nat.reduceEqDiff, Nat.reduceLT, reduceIte, fa, fb, fn, fi, f9, f10, f11, f12, x101, x102]))
    | ((first | apply Ops.g0t | apply Ops.g0f | apply Drs.g0t | apply Drs.g0f); case e => (simp (disch := omega) only [evs, evt, Int.reduceToNat, Int.reduceEq, Int.reduceLT, Int.reduceLE, decide_true, decide_false, Nat.reduceEqDiff, Nat.reduceLT, reduceIte, fa, fb, fn, fi, f9, f10, f11, f12, x101, x102]))
    | ((first | apply Ops.g0u | apply Drs.g0u); case e => (simp (disch := omega) only [evs, evt, Int.reduceToNat, Int.reduceEq, Int.reduceLT, Int.reduceLE, decide_true, decide_false, Nat.reduceEqDiff, Nat.reduceLT, reduceIte, fa, fb, fn, fi, f9, f10, f11, f12, x101, x102]))
    | apply Ok.seq
    | apply Ok.block
    | (apply Ok.ops (S := Sx))
    | (apply Ok.condT; case e => (simp (disch := omega) only [evs, evt, Int.reduceToNat, Int.reduceEq, Int.reduceLT, Int.reduceLE, decide_true, decide_false, Nat.reduceEqDiff, Nat.reduceLT, reduceIte, fa, fb, fn, fi, f9, f10, f11, f12, x101, x102]))
    | (apply Ok.condF; case e => (simp (disch := omega) only [evs, evt, Int.reduceToNat, Int.reduceEq, Int.reduceLT, Int.reduceLE, decide_true, decide_false, Nat.reduceEqDiff, Nat.reduceLT, reduceIte, fa, fb, fn, fi, f9, f10, f11, f12, x101, x102]))
    | ((first | apply Ops.nil | apply Drs.nil | apply Ok.skip | apply Ok.exit | apply Ok.ret); try simp only [Then_n, Then_e, Then_r, Out_n, Out_e, Out_r, Nat.reduceEqDiff, reduceIte])
    | (apply Ok.drs (S := Sx) hmix)
    )
  apply Drs.callBar
  case e => (simp (disch := omega) only [evs, evt, Int.reduceToNat, Int.reduceEq, Int.reduceLT, Int.reduceLE, decide_true, decide_false, Nat.reduceEqDiff, Nat.reduceLT, reduceIte, cond_true, cond_false, List.map_cons, List.map_nil, Nat.reduceAdd, fa, fb, fn, fi, f9, f10, f11, f12, x101, x102]; rfl)
  case hf => rw [hSx, hk]; exact rchain_ok hn1 hn hf22
  case k =>
  intro y23 h23 hy
  rw [hSx] at hy
  obtain ⟨w2, rfl, hc2, s23⟩ := hy
  have hc1' := hc1.grow s23
  repeat (first
    | ((first | apply Ops.op | apply Ops.op0 | apply Drs.bar | apply Drs.pure); case e => (intro k; simp (disch := omega) only [evs, evt, Int.reduceToNat, Int.reduceEq, Int.reduceLT, Int.reduceLE, decide_true, decide_false, Nat.reduceEqDiff, Nat.reduceLT, reduceIte, cond_true, cond_false, Nat.reduceAdd, fa, fb, fn, fi, f9, f10, f11, f12, x101, x102]; rfl))
    | ((first | apply Ops.g1 | apply Drs.g1); case e => (simp (disch := omega) only [evs, evt, Int.reduceToNat, Int.reduceEq, Int.reduceLT, Int.reduceLE, decide_true, decide_false, Nat.reduceEqDiff, Nat.reduceLT, reduceIte, fa, fb, fn, fi, f9, f10, f11, f12, x101, x102]))
    | ((first | apply Ops.g0t | apply Ops.g0f | apply Drs.g0t | apply Drs.g0f); case e => (simp (disch := omega) only [evs, evt, Int.reduceToNat, Int.reduceEq, Int.reduceLT, Int.reduceLE, decide_true, decide_false, Nat.reduceEqDiff, Nat.reduceLT, reduceIte, fa, fb, fn, fi, f9, f10, f11, f12, x101, x102]))
    | ((first | apply Ops.g0u | apply Drs.g0u); case e => (simp (disch := omega) only [evs, evt, Int.reduceToNat, Int.reduceEq, Int.reduceLT, Int.reduceLE, decide_true, decide_false, Nat.reduceEqDiff, Nat.reduceLT, reduceIte, fa, fb, fn, fi, f9, f10, f11, f12, x101, x102]))
    | apply Ok.seq
    | apply Ok.block
    | (apply Ok.ops (S := Sx))
    | (apply Ok.condT; case e => (simp (disch := omega) only [evs, evt, Int.reduceToNat, Int.reduceEq, Int.reduceLT, Int.reduceLE, decide_true, decide_false, Nat.reduceEqDiff, Nat.reduceLT, reduceIte, fa, fb, fn, fi, f9, f10, f11, f12, x101, x102]))
    | (apply Ok.condF; case e => (simp (disch := omega) only [evs, evt, Int.reduceToNat, Int.reduceEq, Int.reduceLT, Int.reduceLE, decide_true, decide_false, Nat.reduceEqDiff, Nat.reduceLT, reduceIte, fa, fb, fn, fi, f9, f10, f11, f12, x101, x102]))
    | ((first | apply Ops.nil | apply Drs.nil | apply Ok.skip | apply Ok.exit | apply Ok.ret); try simp only [Then_n, Then_e, Then_r, Out_n, Out_e, Out_r, Nat.reduceEqDiff, reduceIte])
    | (apply Ok.drs (S := Sx) hmix)
    )
  have hk6 : k ≤ 6 := by omega
  apply Drs.callBar
  case e => (simp (disch := omega) only [evs, evt, Int.reduceToNat, Int.reduceEq, Int.reduceLT, Int.reduceLE, decide_true, decide_false, Nat.reduceEqDiff, Nat.reduceLT, reduceIte, cond_true, cond_false, List.map_cons, List.map_nil, Nat.reduceAdd, fa, fb, fn, fi, f9, f10, f11, f12, x101, x102]; rfl)
  case hf => rw [hSx]; exact rsame_ok hc1' hc2 (by rw [chainM_len]; omega) (fun i hi => by rw [chainM_len] at hi; rw [chainM_get hi, prow_len]; omega)
  case k =>
  intro y24 h24 hy
  rw [hSx] at hy
  obtain rfl : y24 = .b true := hy
  repeat (first
    | ((first | apply Ops.op | apply Ops.op0 | apply Drs.bar | apply Drs.pure); case e => (intro k; simp (disch := omega) only [evs, evt, Int.reduceToNat, Int.reduceEq, Int.reduceLT, Int.reduceLE, decide_true, decide_false, Nat.reduceEqDiff, Nat.reduceLT, reduceIte, cond_true, cond_false, Nat.reduceAdd, fa, fb, fn, fi, f9, f10, f11, f12, x101, x102]; rfl))
    | ((first | apply Ops.g1 | apply Drs.g1); case e => (simp (disch := omega) only [evs, evt, Int.reduceToNat, Int.reduceEq, Int.reduceLT, Int.reduceLE, decide_true, decide_false, Nat.reduceEqDiff, Nat.reduceLT, reduceIte, fa, fb, fn, fi, f9, f10, f11, f12, x101, x102]))
    | ((first | apply Ops.g0t | apply Ops.g0f | apply Drs.g0t | apply Drs.g0f); case e => (simp (disch := omega) only [evs, evt, Int.reduceToNat, Int.reduceEq, Int.reduceLT, Int.reduceLE, decide_true, decide_false, Nat.reduceEqDiff, Nat.reduceLT, reduceIte, fa, fb, fn, fi, f9, f10, f11, f12, x101, x102]))
    | ((first | apply Ops.g0u | apply Drs.g0u); case e => (simp (disch := omega) only [evs, evt, Int.reduceToNat, Int.reduceEq, Int.reduceLT, Int.reduceLE, decide_true, decide_false, Nat.reduceEqDiff, Nat.reduceLT, reduceIte, fa, fb, fn, fi, f9, f10, f11, f12, x101, x102]))
    | apply Ok.seq
    | apply Ok.block
    | (apply Ok.ops (S := Sx))
    | (apply Ok.condT; case e => (simp (disch := omega) only [evs, evt, Int.reduceToNat, Int.reduceEq, Int.reduceLT, Int.reduceLE, decide_true, decide_false, Nat.reduceEqDiff, Nat.reduceLT, reduceIte, fa, fb, fn, fi, f9, f10, f11, f12, x101, x102]))
    | (apply Ok.condF; case e => (simp (disch := omega) only [evs, evt, Int.reduceToNat, Int.reduceEq, Int.reduceLT, Int.reduceLE, decide_true, decide_false, Nat.reduceEqDiff, Nat.reduceLT, reduceIte, fa, fb, fn, fi, f9, f10, f11, f12, x101, x102]))
    | ((first | apply Ops.nil | apply Drs.nil | apply Ok.skip | apply Ok.exit | apply Ok.ret); try simp only [Then_n, Then_e, Then_r, Out_n, Out_e, Out_r, Nat.reduceEqDiff, reduceIte])
    | (apply Ok.drs (S := Sx) hmix)
    )
  exact ⟨_, fun k => res_1 _ _ _ k, by simp (disch := omega) only [evs, evt, Int.reduceToNat, Int.reduceEq, Int.reduceLT, Int.reduceLE, decide_true, decide_false, Nat.reduceEqDiff, Nat.reduceLT, reduceIte, cond_true, cond_false, List.map_cons, List.map_nil, Nat.reduceAdd, one_1, x101]⟩
end Go.Proofs.Ytpnflehemjbemaa
