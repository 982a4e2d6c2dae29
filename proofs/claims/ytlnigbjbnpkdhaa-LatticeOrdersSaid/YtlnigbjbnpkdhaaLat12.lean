/- The body of the law LatticeOrders returns true. No condition. -/
import Derived.Test.YtlnigbjbnpkdhaaLatN
import Derived.Test.YtlnigbjbnpkdhaaIrLat5
import Derived.Test.YtlnigbjbnpkdhaaKnravelinlaw1
import Derived.Test.YtlnigbjbnpkdhaaChecked
set_option maxRecDepth 100000
set_option maxHeartbeats 8000000
set_option linter.all false
namespace Go.Proofs.Ytlnigbjbnpkdhaa
open Go Go.Ev

theorem Mx.refl_floor' {h : H} {v : V} {M : Mt} (a : Mx h v M) : Mx (reFloor h) v M := by obtain ⟨n, f, hp⟩ := h; exact a
theorem Lst.unfloor {h h1 : H} {v : V} {xs : List V} (a : Lst h1 v xs) : Lst (unFloor h h1) v xs := by
  obtain ⟨n, f, hp⟩ := h
  obtain ⟨n1, f1, hp1⟩ := h1
  exact a

theorem orders_ok {h : H} {v : V} {M : Mt} (hM : Mx h v M) (hs : M.length ≤ 9223372036854775807) (hfl : B.val h.floor ≤ B.val h.next) :
    FnOk Try.prog 4 [.a [v]] h fun y h' => y = .b true := by
  have hmix := Checked.mixed Try.checked
  refine fn_run c4 (by intro hb; cases hb) (by simp) (by simp) ?_
  simp only [slotsF, Nat.reduceAdd]
  unfold b4
  obtain ⟨S1, hS1⟩ : ∃ S : Ev.Spec, S = fun f _ hh y h' => y = .b true ∧ h' = hh := ⟨_, rfl⟩
  obtain ⟨S2, hS2⟩ : ∃ S : Ev.Spec, S = fun f _ hh y h' => (f = 14 → y = .b (fewB M) ∧ Stay nowhere hh h') ∧ (f = 17 → y = .i .i64 (chkN M : Nat) ∧ Stay nowhere hh h') := ⟨_, rfl⟩
  repeat (first
    | ((first | apply Ops.op | apply Ops.op0 | apply Drs.bar | apply Drs.pure); case e => (intro k; simp (disch := omega) only [evs, Nat.reduceEqDiff, Nat.reduceLT, reduceIte, cond_true, cond_false, List.map_cons, List.map_nil, Nat.reduceAdd]; rfl))
    | ((first | apply Ops.g1 | apply Drs.g1); case e => (simp (disch := omega) only [evs, Nat.reduceEqDiff, Nat.reduceLT, reduceIte, cond_true, cond_false, List.map_cons, List.map_nil, Nat.reduceAdd]))
    | ((first | apply Ops.g0t | apply Ops.g0f | apply Drs.g0t | apply Drs.g0f); case e => (simp (disch := omega) only [evs, Nat.reduceEqDiff, Nat.reduceLT, reduceIte, cond_true, cond_false, List.map_cons, List.map_nil, Nat.reduceAdd]))
    | ((first | apply Ops.g0u | apply Drs.g0u); case e => (simp (disch := omega) only [evs, Nat.reduceEqDiff, Nat.reduceLT, reduceIte, cond_true, cond_false, List.map_cons, List.map_nil, Nat.reduceAdd]))
    | apply Ok.seq
    | apply Ok.block
    | (apply Ok.ops (S := Sp))
    | (apply Ok.condT; case e => (simp (disch := omega) only [evs, Nat.reduceEqDiff, Nat.reduceLT, reduceIte, cond_true, cond_false, List.map_cons, List.map_nil, Nat.reduceAdd]))
    | (apply Ok.condF; case e => (simp (disch := omega) only [evs, Nat.reduceEqDiff, Nat.reduceLT, reduceIte, cond_true, cond_false, List.map_cons, List.map_nil, Nat.reduceAdd]))
    | ((first | apply Ops.nil | apply Drs.nil | apply Ok.skip | apply Ok.exit | apply Ok.ret); try simp only [Then_n, Then_e, Then_r, Out_n, Out_e, Out_r, Nat.reduceEqDiff, reduceIte])
    | (apply Ok.drs (S := Sp) hmix)
    )
  apply Ops.box1
  case e => (simp (disch := omega) only [evs, Nat.reduceEqDiff, Nat.reduceLT, reduceIte, cond_true, cond_false, List.map_cons, List.map_nil, Nat.reduceAdd]; rfl)
  case k =>
  intro h1 idb st hlt hge hrow
  have hM1 := hM.grow st
  repeat (first
    | ((first | apply Ops.op | apply Ops.op0 | apply Drs.bar | apply Drs.pure); case e => (intro k; simp (disch := omega) only [evs, Nat.reduceEqDiff, Nat.reduceLT, reduceIte, cond_true, cond_false, List.map_cons, List.map_nil, Nat.reduceAdd]; rfl))
    | ((first | apply Ops.g1 | apply Drs.g1); case e => (simp (disch := omega) only [evs, Nat.reduceEqDiff, Nat.reduceLT, reduceIte, cond_true, cond_false, List.map_cons, List.map_nil, Nat.reduceAdd]))
    | ((first | apply Ops.g0t | apply Ops.g0f | apply Drs.g0t | apply Drs.g0f); case e => (simp (disch := omega) only [evs, Nat.reduceEqDiff, Nat.reduceLT, reduceIte, cond_true, cond_false, List.map_cons, List.map_nil, Nat.reduceAdd]))
    | ((first | apply Ops.g0u | apply Drs.g0u); case e => (simp (disch := omega) only [evs, Nat.reduceEqDiff, Nat.reduceLT, reduceIte, cond_true, cond_false, List.map_cons, List.map_nil, Nat.reduceAdd]))
    | apply Ok.seq
    | apply Ok.block
    | (apply Ok.ops (S := S1))
    | (apply Ok.condT; case e => (simp (disch := omega) only [evs, Nat.reduceEqDiff, Nat.reduceLT, reduceIte, cond_true, cond_false, List.map_cons, List.map_nil, Nat.reduceAdd]))
    | (apply Ok.condF; case e => (simp (disch := omega) only [evs, Nat.reduceEqDiff, Nat.reduceLT, reduceIte, cond_true, cond_false, List.map_cons, List.map_nil, Nat.reduceAdd]))
    | ((first | apply Ops.nil | apply Drs.nil | apply Ok.skip | apply Ok.exit | apply Ok.ret); try simp only [Then_n, Then_e, Then_r, Out_n, Out_e, Out_r, Nat.reduceEqDiff, reduceIte])
    | (apply Ok.drs (S := S1) hmix)
    )
  apply Ops.call
  case e => rfl
  case hf => rw [hS1]; exact FnOk.of_pure ravelinlaw1.known_pure h1
  case k =>
  rw [hS1]
  rintro y _ ⟨rfl, rfl⟩
  clear hS1 S1
  repeat (first
    | ((first | apply Ops.op | apply Ops.op0 | apply Drs.bar | apply Drs.pure); case e => (intro k; simp (disch := omega) only [evs, Nat.reduceEqDiff, Nat.reduceLT, reduceIte, cond_true, cond_false, List.map_cons, List.map_nil, Nat.reduceAdd, hrow.rd1, hrow.rdA]; rfl))
    | ((first | apply Ops.g1 | apply Drs.g1); case e => (simp (disch := omega) only [evs, Nat.reduceEqDiff, Nat.reduceLT, reduceIte, cond_true, cond_false, List.map_cons, List.map_nil, Nat.reduceAdd, hrow.rd1, hrow.rdA]))
    | ((first | apply Ops.g0t | apply Ops.g0f | apply Drs.g0t | apply Drs.g0f); case e => (simp (disch := omega) only [evs, Nat.reduceEqDiff, Nat.reduceLT, reduceIte, cond_true, cond_false, List.map_cons, List.map_nil, Nat.reduceAdd, hrow.rd1, hrow.rdA]))
    | ((first | apply Ops.g0u | apply Drs.g0u); case e => (simp (disch := omega) only [evs, Nat.reduceEqDiff, Nat.reduceLT, reduceIte, cond_true, cond_false, List.map_cons, List.map_nil, Nat.reduceAdd, hrow.rd1, hrow.rdA]))
    | apply Ok.seq
    | apply Ok.block
    | (apply Ok.ops (S := S2))
    | (apply Ok.condT; case e => (simp (disch := omega) only [evs, Nat.reduceEqDiff, Nat.reduceLT, reduceIte, cond_true, cond_false, List.map_cons, List.map_nil, Nat.reduceAdd, hrow.rd1, hrow.rdA]))
    | (apply Ok.condF; case e => (simp (disch := omega) only [evs, Nat.reduceEqDiff, Nat.reduceLT, reduceIte, cond_true, cond_false, List.map_cons, List.map_nil, Nat.reduceAdd, hrow.rd1, hrow.rdA]))
    | ((first | apply Ops.nil | apply Drs.nil | apply Ok.skip | apply Ok.exit | apply Ok.ret); try simp only [Then_n, Then_e, Then_r, Out_n, Out_e, Out_r, Nat.reduceEqDiff, reduceIte])
    | (apply Ok.drs (S := S2) hmix)
    )
  apply Ops.call
  case e => (simp (disch := omega) only [evs, Nat.reduceEqDiff, Nat.reduceLT, reduceIte, cond_true, cond_false, List.map_cons, List.map_nil, Nat.reduceAdd]; rfl)
  case hf => rw [hS2]; exact (few_ok hM1 hs).mono fun y h' hk => ⟨(fun _ => hk), (fun hh => by cases hh)⟩
  case k =>
  rw [hS2]
  rintro y h2 ⟨hy, _⟩
  obtain ⟨rfl, st2⟩ := hy rfl
  clear hy
  rw [← hS2]
  have hrow2 := hrow.grow st2 hlt
  have hlt2 := Nat.lt_of_lt_of_le hlt st2.next
  have hM2 := hM1.grow st2
  have st' := st.trans st2
  cases hfew : fewB M
  · repeat (first
      | ((first | apply Ops.op | apply Ops.op0 | apply Drs.bar | apply Drs.pure); case e => (intro k; simp (disch := omega) only [evs, Nat.reduceEqDiff, Nat.reduceLT, reduceIte, cond_true, cond_false, List.map_cons, List.map_nil, Nat.reduceAdd, hrow2.rd1, hrow2.rdA, hfew]; rfl))
      | ((first | apply Ops.g1 | apply Drs.g1); case e => (simp (disch := omega) only [evs, Nat.reduceEqDiff, Nat.reduceLT, reduceIte, cond_true, cond_false, List.map_cons, List.map_nil, Nat.reduceAdd, hrow2.rd1, hrow2.rdA, hfew]))
      | ((first | apply Ops.g0t | apply Ops.g0f | apply Drs.g0t | apply Drs.g0f); case e => (simp (disch := omega) only [evs, Nat.reduceEqDiff, Nat.reduceLT, reduceIte, cond_true, cond_false, List.map_cons, List.map_nil, Nat.reduceAdd, hrow2.rd1, hrow2.rdA, hfew]))
      | ((first | apply Ops.g0u | apply Drs.g0u); case e => (simp (disch := omega) only [evs, Nat.reduceEqDiff, Nat.reduceLT, reduceIte, cond_true, cond_false, List.map_cons, List.map_nil, Nat.reduceAdd, hrow2.rd1, hrow2.rdA, hfew]))
      | apply Ok.seq
      | apply Ok.block
      | (apply Ok.ops (S := S2))
      | (apply Ok.condT; case e => (simp (disch := omega) only [evs, Nat.reduceEqDiff, Nat.reduceLT, reduceIte, cond_true, cond_false, List.map_cons, List.map_nil, Nat.reduceAdd, hrow2.rd1, hrow2.rdA, hfew]))
      | (apply Ok.condF; case e => (simp (disch := omega) only [evs, Nat.reduceEqDiff, Nat.reduceLT, reduceIte, cond_true, cond_false, List.map_cons, List.map_nil, Nat.reduceAdd, hrow2.rd1, hrow2.rdA, hfew]))
      | ((first | apply Ops.nil | apply Drs.nil | apply Ok.skip | apply Ok.exit | apply Ok.ret); try simp only [Then_n, Then_e, Then_r, Out_n, Out_e, Out_r, Nat.reduceEqDiff, reduceIte])
      | (apply Ok.drs (S := S2) hmix)
      )
    exact ⟨_, fun k => res_1 _ _ _ k, by simp (disch := omega) only [evs, Nat.reduceEqDiff, Nat.reduceLT, reduceIte, cond_true, cond_false, List.map_cons, List.map_nil, Nat.reduceAdd, one_1]⟩
  have hlen10 : M.length ≤ 10 := (of_decide_eq_true hfew).1
  repeat (first
    | ((first | apply Ops.op | apply Ops.op0 | apply Drs.bar | apply Drs.pure); case e => (intro k; simp (disch := omega) only [evs, Nat.reduceEqDiff, Nat.reduceLT, reduceIte, cond_true, cond_false, List.map_cons, List.map_nil, Nat.reduceAdd, hrow2.rd1, hrow2.rdA, hfew]; rfl))
    | ((first | apply Ops.g1 | apply Drs.g1); case e => (simp (disch := omega) only [evs, Nat.reduceEqDiff, Nat.reduceLT, reduceIte, cond_true, cond_false, List.map_cons, List.map_nil, Nat.reduceAdd, hrow2.rd1, hrow2.rdA, hfew]))
    | ((first | apply Ops.g0t | apply Ops.g0f | apply Drs.g0t | apply Drs.g0f); case e => (simp (disch := omega) only [evs, Nat.reduceEqDiff, Nat.reduceLT, reduceIte, cond_true, cond_false, List.map_cons, List.map_nil, Nat.reduceAdd, hrow2.rd1, hrow2.rdA, hfew]))
    | ((first | apply Ops.g0u | apply Drs.g0u); case e => (simp (disch := omega) only [evs, Nat.reduceEqDiff, Nat.reduceLT, reduceIte, cond_true, cond_false, List.map_cons, List.map_nil, Nat.reduceAdd, hrow2.rd1, hrow2.rdA, hfew]))
    | apply Ok.seq
    | apply Ok.block
    | (apply Ok.ops (S := S2))
    | (apply Ok.condT; case e => (simp (disch := omega) only [evs, Nat.reduceEqDiff, Nat.reduceLT, reduceIte, cond_true, cond_false, List.map_cons, List.map_nil, Nat.reduceAdd, hrow2.rd1, hrow2.rdA, hfew]))
    | (apply Ok.condF; case e => (simp (disch := omega) only [evs, Nat.reduceEqDiff, Nat.reduceLT, reduceIte, cond_true, cond_false, List.map_cons, List.map_nil, Nat.reduceAdd, hrow2.rd1, hrow2.rdA, hfew]))
    | ((first | apply Ops.nil | apply Drs.nil | apply Ok.skip | apply Ok.exit | apply Ok.ret); try simp only [Then_n, Then_e, Then_r, Out_n, Out_e, Out_r, Nat.reduceEqDiff, reduceIte])
    | (apply Ok.drs (S := S2) hmix)
    )
  apply Ops.call
  case e => (simp (disch := omega) only [evs, Nat.reduceEqDiff, Nat.reduceLT, reduceIte, cond_true, cond_false, List.map_cons, List.map_nil, Nat.reduceAdd]; rfl)
  case hf => rw [hS2]; exact (check_ok hM2 (by omega)).mono fun y h' hk => ⟨(fun hh => by cases hh), (fun _ => hk)⟩
  case k =>
  rw [hS2]
  rintro y h3 ⟨_, hy⟩
  obtain ⟨rfl, st3⟩ := hy rfl
  clear hy hS2 S2
  have hrow3 := hrow2.grow st3 hlt2
  have hlt3 := Nat.lt_of_lt_of_le hlt2 st3.next
  have hM3 := hM2.grow st3
  have st3' := st'.trans st3
  by_cases hck : chkN M = 0
  case neg =>
    have d : decide (((chkN M : Nat) : Int) = 0) = false := decide_eq_false (by omega)
    repeat (first
      | ((first | apply Ops.op | apply Ops.op0 | apply Drs.bar | apply Drs.pure); case e => (intro k; simp (disch := omega) only [evs, Nat.reduceEqDiff, Nat.reduceLT, reduceIte, cond_true, cond_false, List.map_cons, List.map_nil, Nat.reduceAdd, hrow3.rd1, hrow3.rdA, d]; rfl))
      | ((first | apply Ops.g1 | apply Drs.g1); case e => (simp (disch := omega) only [evs, Nat.reduceEqDiff, Nat.reduceLT, reduceIte, cond_true, cond_false, List.map_cons, List.map_nil, Nat.reduceAdd, hrow3.rd1, hrow3.rdA, d]))
      | ((first | apply Ops.g0t | apply Ops.g0f | apply Drs.g0t | apply Drs.g0f); case e => (simp (disch := omega) only [evs, Nat.reduceEqDiff, Nat.reduceLT, reduceIte, cond_true, cond_false, List.map_cons, List.map_nil, Nat.reduceAdd, hrow3.rd1, hrow3.rdA, d]))
      | ((first | apply Ops.g0u | apply Drs.g0u); case e => (simp (disch := omega) only [evs, Nat.reduceEqDiff, Nat.reduceLT, reduceIte, cond_true, cond_false, List.map_cons, List.map_nil, Nat.reduceAdd, hrow3.rd1, hrow3.rdA, d]))
      | apply Ok.seq
      | apply Ok.block
      | (apply Ok.ops (S := Sp))
      | (apply Ok.condT; case e => (simp (disch := omega) only [evs, Nat.reduceEqDiff, Nat.reduceLT, reduceIte, cond_true, cond_false, List.map_cons, List.map_nil, Nat.reduceAdd, hrow3.rd1, hrow3.rdA, d]))
      | (apply Ok.condF; case e => (simp (disch := omega) only [evs, Nat.reduceEqDiff, Nat.reduceLT, reduceIte, cond_true, cond_false, List.map_cons, List.map_nil, Nat.reduceAdd, hrow3.rd1, hrow3.rdA, d]))
      | ((first | apply Ops.nil | apply Drs.nil | apply Ok.skip | apply Ok.exit | apply Ok.ret); try simp only [Then_n, Then_e, Then_r, Out_n, Out_e, Out_r, Nat.reduceEqDiff, reduceIte])
      | (apply Ok.drs (S := Sp) hmix)
      )
    exact ⟨_, fun k => res_1 _ _ _ k, by simp (disch := omega) only [evs, Nat.reduceEqDiff, Nat.reduceLT, reduceIte, cond_true, cond_false, List.map_cons, List.map_nil, Nat.reduceAdd, one_1]⟩
  have d : decide (((chkN M : Nat) : Int) = 0) = true := decide_eq_true (by omega)
  have hq := of_decide_eq_true (chk_zero hck).1
  have hn1 := hq.1
  have hn6 := hq.2.1
  have hqr := hq.2.2
  obtain ⟨S3, hS3⟩ : ∃ S : Ev.Spec, S = fun f _ hh y h' => y = .i .i64 (lvls M : Nat) ∧ Stay nowhere hh h' := ⟨_, rfl⟩
  repeat (first
    | ((first | apply Ops.op | apply Ops.op0 | apply Drs.bar | apply Drs.pure); case e => (intro k; simp (disch := omega) only [evs, Nat.reduceEqDiff, Nat.reduceLT, reduceIte, cond_true, cond_false, List.map_cons, List.map_nil, Nat.reduceAdd, hrow3.rd1, hrow3.rdA, d]; rfl))
    | ((first | apply Ops.g1 | apply Drs.g1); case e => (simp (disch := omega) only [evs, Nat.reduceEqDiff, Nat.reduceLT, reduceIte, cond_true, cond_false, List.map_cons, List.map_nil, Nat.reduceAdd, hrow3.rd1, hrow3.rdA, d]))
    | ((first | apply Ops.g0t | apply Ops.g0f | apply Drs.g0t | apply Drs.g0f); case e => (simp (disch := omega) only [evs, Nat.reduceEqDiff, Nat.reduceLT, reduceIte, cond_true, cond_false, List.map_cons, List.map_nil, Nat.reduceAdd, hrow3.rd1, hrow3.rdA, d]))
    | ((first | apply Ops.g0u | apply Drs.g0u); case e => (simp (disch := omega) only [evs, Nat.reduceEqDiff, Nat.reduceLT, reduceIte, cond_true, cond_false, List.map_cons, List.map_nil, Nat.reduceAdd, hrow3.rd1, hrow3.rdA, d]))
    | apply Ok.seq
    | apply Ok.block
    | (apply Ok.ops (S := S3))
    | (apply Ok.condT; case e => (simp (disch := omega) only [evs, Nat.reduceEqDiff, Nat.reduceLT, reduceIte, cond_true, cond_false, List.map_cons, List.map_nil, Nat.reduceAdd, hrow3.rd1, hrow3.rdA, d]))
    | (apply Ok.condF; case e => (simp (disch := omega) only [evs, Nat.reduceEqDiff, Nat.reduceLT, reduceIte, cond_true, cond_false, List.map_cons, List.map_nil, Nat.reduceAdd, hrow3.rd1, hrow3.rdA, d]))
    | ((first | apply Ops.nil | apply Drs.nil | apply Ok.skip | apply Ok.exit | apply Ok.ret); try simp only [Then_n, Then_e, Then_r, Out_n, Out_e, Out_r, Nat.reduceEqDiff, reduceIte])
    | (apply Ok.drs (S := S3) hmix)
    )
  apply Ops.call
  case e => (simp (disch := omega) only [evs, Nat.reduceEqDiff, Nat.reduceLT, reduceIte, cond_true, cond_false, List.map_cons, List.map_nil, Nat.reduceAdd]; rfl)
  case hf => rw [hS3]; exact levels_ok hM3 (by omega)
  case k =>
  rw [hS3]
  rintro y h4 ⟨rfl, st4⟩
  clear hS3 S3
  have hrow4 := hrow3.grow st4 hlt3
  have hlt4 := Nat.lt_of_lt_of_le hlt3 st4.next
  have hM4 := hM3.grow st4
  have st4' := st3'.trans st4
  have hlv := lvls_zero hck
  generalize lvls M = n at *
  obtain ⟨S4, hS4⟩ : ∃ S : Ev.Spec, S = fun f _ hh y h' => Il h' y (orderL M) ∧ Stay nowhere hh h' := ⟨_, rfl⟩
  repeat (first
    | ((first | apply Ops.op | apply Ops.op0 | apply Drs.bar | apply Drs.pure); case e => (intro k; simp (disch := omega) only [evs, Nat.reduceEqDiff, Nat.reduceLT, reduceIte, cond_true, cond_false, List.map_cons, List.map_nil, Nat.reduceAdd, hrow4.rdA]; rfl))
    | ((first | apply Ops.g1 | apply Drs.g1); case e => (simp (disch := omega) only [evs, Nat.reduceEqDiff, Nat.reduceLT, reduceIte, cond_true, cond_false, List.map_cons, List.map_nil, Nat.reduceAdd, hrow4.rdA]))
    | ((first | apply Ops.g0t | apply Ops.g0f | apply Drs.g0t | apply Drs.g0f); case e => (simp (disch := omega) only [evs, Nat.reduceEqDiff, Nat.reduceLT, reduceIte, cond_true, cond_false, List.map_cons, List.map_nil, Nat.reduceAdd, hrow4.rdA]))
    | ((first | apply Ops.g0u | apply Drs.g0u); case e => (simp (disch := omega) only [evs, Nat.reduceEqDiff, Nat.reduceLT, reduceIte, cond_true, cond_false, List.map_cons, List.map_nil, Nat.reduceAdd, hrow4.rdA]))
    | apply Ok.seq
    | apply Ok.block
    | (apply Ok.ops (S := S4))
    | (apply Ok.condT; case e => (simp (disch := omega) only [evs, Nat.reduceEqDiff, Nat.reduceLT, reduceIte, cond_true, cond_false, List.map_cons, List.map_nil, Nat.reduceAdd, hrow4.rdA]))
    | (apply Ok.condF; case e => (simp (disch := omega) only [evs, Nat.reduceEqDiff, Nat.reduceLT, reduceIte, cond_true, cond_false, List.map_cons, List.map_nil, Nat.reduceAdd, hrow4.rdA]))
    | ((first | apply Ops.nil | apply Drs.nil | apply Ok.skip | apply Ok.exit | apply Ok.ret); try simp only [Then_n, Then_e, Then_r, Out_n, Out_e, Out_r, Nat.reduceEqDiff, reduceIte])
    | (apply Ok.drs (S := S4) hmix)
    )
  apply Ops.call
  case e => (simp (disch := omega) only [evs, Nat.reduceEqDiff, Nat.reduceLT, reduceIte, cond_true, cond_false, List.map_cons, List.map_nil, Nat.reduceAdd]; rfl)
  case hf => rw [hS4]; exact order_ok hM4 (by omega) (st4'.fl hfl)
  case k =>
  rw [hS4]
  rintro o h5 ⟨hO, st5⟩
  clear hS4 S4
  have hrow5 := hrow4.grow st5 hlt4
  have hlt5 := Nat.lt_of_lt_of_le hlt4 st5.next
  have hM5 := hM4.grow st5
  have st5' := st4'.trans st5
  have hOl := order_len hck
  have d1 : decide (((orderL M).length : Int) = (n : Int)) = true := decide_eq_true (by omega)
  have d2 : decide ((n : Int) = (M.length : Int)) = true := decide_eq_true (by omega)
  repeat (first
    | ((first | apply Ops.op | apply Ops.op0 | apply Drs.bar | apply Drs.pure); case e => (intro k; simp (disch := omega) only [evs, Nat.reduceEqDiff, Nat.reduceLT, reduceIte, cond_true, cond_false, List.map_cons, List.map_nil, Nat.reduceAdd, hrow5.rd1, hO.len, hM5.len, d1, d2]; rfl))
    | ((first | apply Ops.g1 | apply Drs.g1); case e => (simp (disch := omega) only [evs, Nat.reduceEqDiff, Nat.reduceLT, reduceIte, cond_true, cond_false, List.map_cons, List.map_nil, Nat.reduceAdd, hrow5.rd1, hO.len, hM5.len, d1, d2]))
    | ((first | apply Ops.g0t | apply Ops.g0f | apply Drs.g0t | apply Drs.g0f); case e => (simp (disch := omega) only [evs, Nat.reduceEqDiff, Nat.reduceLT, reduceIte, cond_true, cond_false, List.map_cons, List.map_nil, Nat.reduceAdd, hrow5.rd1, hO.len, hM5.len, d1, d2]))
    | ((first | apply Ops.g0u | apply Drs.g0u); case e => (simp (disch := omega) only [evs, Nat.reduceEqDiff, Nat.reduceLT, reduceIte, cond_true, cond_false, List.map_cons, List.map_nil, Nat.reduceAdd, hrow5.rd1, hO.len, hM5.len, d1, d2]))
    | apply Ok.seq
    | apply Ok.block
    | (apply Ok.ops (S := Sp))
    | (apply Ok.condT; case e => (simp (disch := omega) only [evs, Nat.reduceEqDiff, Nat.reduceLT, reduceIte, cond_true, cond_false, List.map_cons, List.map_nil, Nat.reduceAdd, hrow5.rd1, hO.len, hM5.len, d1, d2]))
    | (apply Ok.condF; case e => (simp (disch := omega) only [evs, Nat.reduceEqDiff, Nat.reduceLT, reduceIte, cond_true, cond_false, List.map_cons, List.map_nil, Nat.reduceAdd, hrow5.rd1, hO.len, hM5.len, d1, d2]))
    | ((first | apply Ops.nil | apply Drs.nil | apply Ok.skip | apply Ok.exit | apply Ok.ret); try simp only [Then_n, Then_e, Then_r, Out_n, Out_e, Out_r, Nat.reduceEqDiff, reduceIte])
    | (apply Ok.drs (S := Sp) hmix)
    )
  refine Ok.loop (fun m t g => ∃ i : Nat, i ≤ n ∧ m = n - i ∧ Stay nowhere h5 g ∧ get 1 t = .p idb 0 0 1 ∧ get 3 t = .i .i64 (n : Int) ∧ get 4 t = o ∧ get 5 t = .i .i64 (i : Int)) ?_ n _ _ ?_
  · rintro m t g ⟨i, hi', rfl, sg, f1, f3, f4, f5⟩
    have hrowg := hrow5.grow sg hlt5
    have hltg := Nat.lt_of_lt_of_le hlt5 sg.next
    have hMg := hM5.grow sg
    have hOg := hO.grow sg
    have fg := (st5'.trans sg).fl hfl
    unfold l4_0
    repeat (first
      | ((first | apply Ops.op | apply Ops.op0 | apply Drs.bar | apply Drs.pure); case e => (intro k; simp (disch := omega) only [evs, Nat.reduceEqDiff, Nat.reduceLT, reduceIte, cond_true, cond_false, List.map_cons, List.map_nil, Nat.reduceAdd, f1, f3, f4, f5]; rfl))
      | ((first | apply Ops.g1 | apply Drs.g1); case e => (simp (disch := omega) only [evs, Nat.reduceEqDiff, Nat.reduceLT, reduceIte, cond_true, cond_false, List.map_cons, List.map_nil, Nat.reduceAdd, f1, f3, f4, f5]))
      | ((first | apply Ops.g0t | apply Ops.g0f | apply Drs.g0t | apply Drs.g0f); case e => (simp (disch := omega) only [evs, Nat.reduceEqDiff, Nat.reduceLT, reduceIte, cond_true, cond_false, List.map_cons, List.map_nil, Nat.reduceAdd, f1, f3, f4, f5]))
      | ((first | apply Ops.g0u | apply Drs.g0u); case e => (simp (disch := omega) only [evs, Nat.reduceEqDiff, Nat.reduceLT, reduceIte, cond_true, cond_false, List.map_cons, List.map_nil, Nat.reduceAdd, f1, f3, f4, f5]))
      | apply Ok.seq
      | apply Ok.block
      | (apply Ok.ops (S := Sp))
      | (apply Ok.condT; case e => (simp (disch := omega) only [evs, Nat.reduceEqDiff, Nat.reduceLT, reduceIte, cond_true, cond_false, List.map_cons, List.map_nil, Nat.reduceAdd, f1, f3, f4, f5]))
      | (apply Ok.condF; case e => (simp (disch := omega) only [evs, Nat.reduceEqDiff, Nat.reduceLT, reduceIte, cond_true, cond_false, List.map_cons, List.map_nil, Nat.reduceAdd, f1, f3, f4, f5]))
      | ((first | apply Ops.nil | apply Drs.nil | apply Ok.skip | apply Ok.exit | apply Ok.ret); try simp only [Then_n, Then_e, Then_r, Out_n, Out_e, Out_r, Nat.reduceEqDiff, reduceIte])
      | (apply Ok.drs (S := Sp) hmix)
      )
    apply Ok.cond
    case hq => (simp (disch := omega) only [evs, Nat.reduceEqDiff, Nat.reduceLT, reduceIte, cond_true, cond_false, List.map_cons, List.map_nil, Nat.reduceAdd, f3, f5]; rfl)
    case hb =>
      intro hc
      repeat (first
        | ((first | apply Ops.op | apply Ops.op0 | apply Drs.bar | apply Drs.pure); case e => (intro k; simp (disch := omega) only [evs, Nat.reduceEqDiff, Nat.reduceLT, reduceIte, cond_true, cond_false, List.map_cons, List.map_nil, Nat.reduceAdd]; rfl))
        | ((first | apply Ops.g1 | apply Drs.g1); case e => (simp (disch := omega) only [evs, Nat.reduceEqDiff, Nat.reduceLT, reduceIte, cond_true, cond_false, List.map_cons, List.map_nil, Nat.reduceAdd]))
        | ((first | apply Ops.g0t | apply Ops.g0f | apply Drs.g0t | apply Drs.g0f); case e => (simp (disch := omega) only [evs, Nat.reduceEqDiff, Nat.reduceLT, reduceIte, cond_true, cond_false, List.map_cons, List.map_nil, Nat.reduceAdd]))
        | ((first | apply Ops.g0u | apply Drs.g0u); case e => (simp (disch := omega) only [evs, Nat.reduceEqDiff, Nat.reduceLT, reduceIte, cond_true, cond_false, List.map_cons, List.map_nil, Nat.reduceAdd]))
        | apply Ok.seq
        | apply Ok.block
        | (apply Ok.ops (S := Sp))
        | (apply Ok.condT; case e => (simp (disch := omega) only [evs, Nat.reduceEqDiff, Nat.reduceLT, reduceIte, cond_true, cond_false, List.map_cons, List.map_nil, Nat.reduceAdd]))
        | (apply Ok.condF; case e => (simp (disch := omega) only [evs, Nat.reduceEqDiff, Nat.reduceLT, reduceIte, cond_true, cond_false, List.map_cons, List.map_nil, Nat.reduceAdd]))
        | ((first | apply Ops.nil | apply Drs.nil | apply Ok.skip | apply Ok.exit | apply Ok.ret); try simp only [Then_n, Then_e, Then_r, Out_n, Out_e, Out_r, Nat.reduceEqDiff, reduceIte])
        | (apply Ok.drs (S := Sp) hmix)
        )
      exact ⟨_, fun k => res_1 _ _ _ k, by simp (disch := omega) only [evs, Nat.reduceEqDiff, Nat.reduceLT, reduceIte, cond_true, cond_false, List.map_cons, List.map_nil, Nat.reduceAdd, one_1]⟩
    case ha =>
      intro hc
      have hc := of_decide_eq_true hc
      have hiM : i < M.length := by omega
      repeat (first
        | ((first | apply Ops.op | apply Ops.op0 | apply Drs.bar | apply Drs.pure); case e => (intro k; simp (disch := omega) only [evs, Nat.reduceEqDiff, Nat.reduceLT, reduceIte, cond_true, cond_false, List.map_cons, List.map_nil, Nat.reduceAdd, f1, f3, f4, f5]; rfl))
        | ((first | apply Ops.g1 | apply Drs.g1); case e => (simp (disch := omega) only [evs, Nat.reduceEqDiff, Nat.reduceLT, reduceIte, cond_true, cond_false, List.map_cons, List.map_nil, Nat.reduceAdd, f1, f3, f4, f5]))
        | ((first | apply Ops.g0t | apply Ops.g0f | apply Drs.g0t | apply Drs.g0f); case e => (simp (disch := omega) only [evs, Nat.reduceEqDiff, Nat.reduceLT, reduceIte, cond_true, cond_false, List.map_cons, List.map_nil, Nat.reduceAdd, f1, f3, f4, f5]))
        | ((first | apply Ops.g0u | apply Drs.g0u); case e => (simp (disch := omega) only [evs, Nat.reduceEqDiff, Nat.reduceLT, reduceIte, cond_true, cond_false, List.map_cons, List.map_nil, Nat.reduceAdd, f1, f3, f4, f5]))
        | apply Ok.seq
        | apply Ok.block
        | (apply Ok.ops (S := Sp))
        | (apply Ok.condT; case e => (simp (disch := omega) only [evs, Nat.reduceEqDiff, Nat.reduceLT, reduceIte, cond_true, cond_false, List.map_cons, List.map_nil, Nat.reduceAdd, f1, f3, f4, f5]))
        | (apply Ok.condF; case e => (simp (disch := omega) only [evs, Nat.reduceEqDiff, Nat.reduceLT, reduceIte, cond_true, cond_false, List.map_cons, List.map_nil, Nat.reduceAdd, f1, f3, f4, f5]))
        | ((first | apply Ops.nil | apply Drs.nil | apply Ok.skip | apply Ok.exit | apply Ok.ret); try simp only [Then_n, Then_e, Then_r, Out_n, Out_e, Out_r, Nat.reduceEqDiff, reduceIte])
        | (apply Ok.drs (S := Sp) hmix)
        )
      refine Ok.loop (fun m t g' => ∃ k : Nat, k ≤ i ∧ m = i - k ∧ Stay nowhere g g' ∧ get 1 t = .p idb 0 0 1 ∧ get 3 t = .i .i64 (n : Int) ∧ get 4 t = o ∧ get 5 t = .i .i64 (i : Int) ∧ get 6 t = .i .i64 (k : Int)) ?_ i _ _ ?_
      · rintro m t g1 ⟨k, hk', rfl, sg1, e1, e3, e4, e5, e6⟩
        have hrow1 := hrowg.grow sg1 hltg
        have hlt1 := Nat.lt_of_lt_of_le hltg sg1.next
        have hMg1 := hMg.grow sg1
        have hOg1 := hOg.grow sg1
        have fg1 := sg1.fl fg
        unfold l4_1
        repeat (first
          | ((first | apply Ops.op | apply Ops.op0 | apply Drs.bar | apply Drs.pure); case e => (intro k; simp (disch := omega) only [evs, Nat.reduceEqDiff, Nat.reduceLT, reduceIte, cond_true, cond_false, List.map_cons, List.map_nil, Nat.reduceAdd, e1, e3, e4, e5, e6]; rfl))
          | ((first | apply Ops.g1 | apply Drs.g1); case e => (simp (disch := omega) only [evs, Nat.reduceEqDiff, Nat.reduceLT, reduceIte, cond_true, cond_false, List.map_cons, List.map_nil, Nat.reduceAdd, e1, e3, e4, e5, e6]))
          | ((first | apply Ops.g0t | apply Ops.g0f | apply Drs.g0t | apply Drs.g0f); case e => (simp (disch := omega) only [evs, Nat.reduceEqDiff, Nat.reduceLT, reduceIte, cond_true, cond_false, List.map_cons, List.map_nil, Nat.reduceAdd, e1, e3, e4, e5, e6]))
          | ((first | apply Ops.g0u | apply Drs.g0u); case e => (simp (disch := omega) only [evs, Nat.reduceEqDiff, Nat.reduceLT, reduceIte, cond_true, cond_false, List.map_cons, List.map_nil, Nat.reduceAdd, e1, e3, e4, e5, e6]))
          | apply Ok.seq
          | apply Ok.block
          | (apply Ok.ops (S := Sp))
          | (apply Ok.condT; case e => (simp (disch := omega) only [evs, Nat.reduceEqDiff, Nat.reduceLT, reduceIte, cond_true, cond_false, List.map_cons, List.map_nil, Nat.reduceAdd, e1, e3, e4, e5, e6]))
          | (apply Ok.condF; case e => (simp (disch := omega) only [evs, Nat.reduceEqDiff, Nat.reduceLT, reduceIte, cond_true, cond_false, List.map_cons, List.map_nil, Nat.reduceAdd, e1, e3, e4, e5, e6]))
          | ((first | apply Ops.nil | apply Drs.nil | apply Ok.skip | apply Ok.exit | apply Ok.ret); try simp only [Then_n, Then_e, Then_r, Out_n, Out_e, Out_r, Nat.reduceEqDiff, reduceIte])
          | (apply Ok.drs (S := Sp) hmix)
          )
        apply Ok.cond
        case hq => (simp (disch := omega) only [evs, Nat.reduceEqDiff, Nat.reduceLT, reduceIte, cond_true, cond_false, List.map_cons, List.map_nil, Nat.reduceAdd, e5, e6]; rfl)
        case hb =>
          intro hc2
          obtain ⟨S6, hS6⟩ : ∃ S : Ev.Spec, S = fun f _ hh y h' => (f = 26 → Il h' y (belowL M (i : Int)) ∧ Stay nowhere hh h') ∧ (f = 28 → Il h' y (coversL M (i : Int)) ∧ Stay nowhere hh h') := ⟨_, rfl⟩
          have use1 : ∀ {vs : List V} {g : H} {y : V} {g' : H}, S6 26 vs g y g' → Il g' y (belowL M (i : Int)) ∧ Stay nowhere g g' := fun hk => by
            rw [hS6] at hk; exact hk.1 rfl
          have use2 : ∀ {vs : List V} {g : H} {y : V} {g' : H}, S6 28 vs g y g' → Il g' y (coversL M (i : Int)) ∧ Stay nowhere g g' := fun hk => by
            rw [hS6] at hk; exact hk.2 rfl
          repeat (first
            | ((first | apply Ops.op | apply Ops.op0 | apply Drs.bar | apply Drs.pure); case e => (intro k; simp (disch := omega) only [evs, Nat.reduceEqDiff, Nat.reduceLT, reduceIte, cond_true, cond_false, List.map_cons, List.map_nil, Nat.reduceAdd, e1, e3, e4, e5, e6, hrow1.rdA]; rfl))
            | ((first | apply Ops.g1 | apply Drs.g1); case e => (simp (disch := omega) only [evs, Nat.reduceEqDiff, Nat.reduceLT, reduceIte, cond_true, cond_false, List.map_cons, List.map_nil, Nat.reduceAdd, e1, e3, e4, e5, e6, hrow1.rdA]))
            | ((first | apply Ops.g0t | apply Ops.g0f | apply Drs.g0t | apply Drs.g0f); case e => (simp (disch := omega) only [evs, Nat.reduceEqDiff, Nat.reduceLT, reduceIte, cond_true, cond_false, List.map_cons, List.map_nil, Nat.reduceAdd, e1, e3, e4, e5, e6, hrow1.rdA]))
            | ((first | apply Ops.g0u | apply Drs.g0u); case e => (simp (disch := omega) only [evs, Nat.reduceEqDiff, Nat.reduceLT, reduceIte, cond_true, cond_false, List.map_cons, List.map_nil, Nat.reduceAdd, e1, e3, e4, e5, e6, hrow1.rdA]))
            | apply Ok.seq
            | apply Ok.block
            | (apply Ok.ops (S := S6))
            | (apply Ok.condT; case e => (simp (disch := omega) only [evs, Nat.reduceEqDiff, Nat.reduceLT, reduceIte, cond_true, cond_false, List.map_cons, List.map_nil, Nat.reduceAdd, e1, e3, e4, e5, e6, hrow1.rdA]))
            | (apply Ok.condF; case e => (simp (disch := omega) only [evs, Nat.reduceEqDiff, Nat.reduceLT, reduceIte, cond_true, cond_false, List.map_cons, List.map_nil, Nat.reduceAdd, e1, e3, e4, e5, e6, hrow1.rdA]))
            | ((first | apply Ops.nil | apply Drs.nil | apply Ok.skip | apply Ok.exit | apply Ok.ret); try simp only [Then_n, Then_e, Then_r, Out_n, Out_e, Out_r, Nat.reduceEqDiff, reduceIte])
            | (apply Ok.drs (S := S6) hmix)
            )
          apply Drs.call
          case e => (simp (disch := omega) only [evs, Nat.reduceEqDiff, Nat.reduceLT, reduceIte, cond_true, cond_false, List.map_cons, List.map_nil, Nat.reduceAdd, e5]; rfl)
          case hf => rw [hS6]; exact (below_ok (Mx.refl_floor' hMg1) (by omega) (by rw [reFloor_floor, reFloor_next]; exact Nat.le_refl _) (i : Int)).mono fun y h' hk => ⟨(fun _ => ⟨hk.1.il, hk.2⟩), (fun hh => by cases hh)⟩
          case k =>
          intro bv h6 hy
          obtain ⟨hB6, s6⟩ := use1 hy
          clear hy
          have s6' := Stay.unfloor s6
          have hB6' : Il (unFloor g1 h6) bv (belowL M (i : Int)) := Lst.unfloor hB6
          have hrow6 := hrow1.grow s6' hlt1
          have hMg6 := hMg1.grow s6'
          have hlt6 := Nat.lt_of_lt_of_le hlt1 s6'.next
          clear s6 hB6
          generalize unFloor g1 h6 = g2 at *
          repeat (first
            | ((first | apply Ops.op | apply Ops.op0 | apply Drs.bar | apply Drs.pure); case e => (intro k; simp (disch := omega) only [evs, Nat.reduceEqDiff, Nat.reduceLT, reduceIte, cond_true, cond_false, List.map_cons, List.map_nil, Nat.reduceAdd, e1, e3, e4, e5, e6, hrow6.rdA]; rfl))
            | ((first | apply Ops.g1 | apply Drs.g1); case e => (simp (disch := omega) only [evs, Nat.reduceEqDiff, Nat.reduceLT, reduceIte, cond_true, cond_false, List.map_cons, List.map_nil, Nat.reduceAdd, e1, e3, e4, e5, e6, hrow6.rdA]))
            | ((first | apply Ops.g0t | apply Ops.g0f | apply Drs.g0t | apply Drs.g0f); case e => (simp (disch := omega) only [evs, Nat.reduceEqDiff, Nat.reduceLT, reduceIte, cond_true, cond_false, List.map_cons, List.map_nil, Nat.reduceAdd, e1, e3, e4, e5, e6, hrow6.rdA]))
            | ((first | apply Ops.g0u | apply Drs.g0u); case e => (simp (disch := omega) only [evs, Nat.reduceEqDiff, Nat.reduceLT, reduceIte, cond_true, cond_false, List.map_cons, List.map_nil, Nat.reduceAdd, e1, e3, e4, e5, e6, hrow6.rdA]))
            | apply Ok.seq
            | apply Ok.block
            | (apply Ok.ops (S := S6))
            | (apply Ok.condT; case e => (simp (disch := omega) only [evs, Nat.reduceEqDiff, Nat.reduceLT, reduceIte, cond_true, cond_false, List.map_cons, List.map_nil, Nat.reduceAdd, e1, e3, e4, e5, e6, hrow6.rdA]))
            | (apply Ok.condF; case e => (simp (disch := omega) only [evs, Nat.reduceEqDiff, Nat.reduceLT, reduceIte, cond_true, cond_false, List.map_cons, List.map_nil, Nat.reduceAdd, e1, e3, e4, e5, e6, hrow6.rdA]))
            | ((first | apply Ops.nil | apply Drs.nil | apply Ok.skip | apply Ok.exit | apply Ok.ret); try simp only [Then_n, Then_e, Then_r, Out_n, Out_e, Out_r, Nat.reduceEqDiff, reduceIte])
            | (apply Ok.drs (S := S6) hmix)
            )
          apply Drs.callBar
          case e => (simp (disch := omega) only [evs, Nat.reduceEqDiff, Nat.reduceLT, reduceIte, cond_true, cond_false, List.map_cons, List.map_nil, Nat.reduceAdd, e5]; rfl)
          case hf => rw [hS6]; exact (covers_ok hMg6 (by omega) (s6'.fl fg1) (i : Int)).mono fun y h' hk => ⟨(fun hh => by cases hh), (fun _ => ⟨hk.1.il, hk.2⟩)⟩
          case k =>
          intro cv g3 hy
          obtain ⟨hC7, s7⟩ := use2 hy
          clear hy use1 use2 hS6
          have hB7 := hB6'.grow s7
          have hrow7 := hrow6.grow s7 hlt6
          have hMg7 := hMg6.grow s7
          have hlt7 := Nat.lt_of_lt_of_le hlt6 s7.next
          have sg7 := ((sg.trans sg1).trans s6').trans s7
          have hle := covers_le (M := M) (i : Int)
          have hbl := belowL_len M (i : Int)
          have hpos := covers_pos hck hiM
          have dgt : decide (((belowL M (i : Int)).length : Int) < ((coversL M (i : Int)).length : Int)) = false := decide_eq_false (by omega)
          have hget := fun (k : Nat) (hk : k < (belowL M (i : Int)).length) => below_get hck hiM hk
          have hex := fun (b : Nat) (hb : b < M.length) (hm : (b : Int) ∈ belowL M (i : Int)) => covers_ex hck hiM hb hm
          generalize hLB : belowL M (i : Int) = LB at *
          generalize hLC : coversL M (i : Int) = LC at *
          generalize hbeta : decide ((0 : Int) < (LB.length : Int)) = β at hpos
          cases β
          all_goals
            repeat (first
              | ((first | apply Ops.op | apply Ops.op0 | apply Drs.bar | apply Drs.pure); case e => (intro k; simp (disch := omega) only [evs, Nat.reduceEqDiff, Nat.reduceLT, reduceIte, cond_true, cond_false, List.map_cons, List.map_nil, Nat.reduceAdd, e1, e3, e4, e5, e6, hB7.len, hC7.len, dgt, hbeta, hpos]; rfl))
              | ((first | apply Ops.g1 | apply Drs.g1); case e => (simp (disch := omega) only [evs, Nat.reduceEqDiff, Nat.reduceLT, reduceIte, cond_true, cond_false, List.map_cons, List.map_nil, Nat.reduceAdd, e1, e3, e4, e5, e6, hB7.len, hC7.len, dgt, hbeta, hpos]))
              | ((first | apply Ops.g0t | apply Ops.g0f | apply Drs.g0t | apply Drs.g0f); case e => (simp (disch := omega) only [evs, Nat.reduceEqDiff, Nat.reduceLT, reduceIte, cond_true, cond_false, List.map_cons, List.map_nil, Nat.reduceAdd, e1, e3, e4, e5, e6, hB7.len, hC7.len, dgt, hbeta, hpos]))
              | ((first | apply Ops.g0u | apply Drs.g0u); case e => (simp (disch := omega) only [evs, Nat.reduceEqDiff, Nat.reduceLT, reduceIte, cond_true, cond_false, List.map_cons, List.map_nil, Nat.reduceAdd, e1, e3, e4, e5, e6, hB7.len, hC7.len, dgt, hbeta, hpos]))
              | apply Ok.seq
              | apply Ok.block
              | (apply Ok.ops (S := Sp))
              | (apply Ok.condT; case e => (simp (disch := omega) only [evs, Nat.reduceEqDiff, Nat.reduceLT, reduceIte, cond_true, cond_false, List.map_cons, List.map_nil, Nat.reduceAdd, e1, e3, e4, e5, e6, hB7.len, hC7.len, dgt, hbeta, hpos]))
              | (apply Ok.condF; case e => (simp (disch := omega) only [evs, Nat.reduceEqDiff, Nat.reduceLT, reduceIte, cond_true, cond_false, List.map_cons, List.map_nil, Nat.reduceAdd, e1, e3, e4, e5, e6, hB7.len, hC7.len, dgt, hbeta, hpos]))
              | ((first | apply Ops.nil | apply Drs.nil | apply Ok.skip | apply Ok.exit | apply Ok.ret); try simp only [Then_n, Then_e, Then_r, Out_n, Out_e, Out_r, Nat.reduceEqDiff, reduceIte])
              | (apply Ok.drs (S := Sp) hmix)
              )
            refine Ok.loop (fun m t g' => ∃ k : Nat, k ≤ LB.length ∧ m = LB.length - k ∧ Stay nowhere g3 g' ∧ get 1 t = .p idb 0 0 1 ∧ get 3 t = .i .i64 (n : Int) ∧ get 4 t = o ∧ get 5 t = .i .i64 (i : Int) ∧ get 7 t = bv ∧ get 8 t = cv ∧ get 9 t = .i .i64 (k : Int)) ?_ LB.length _ _ ?_
            · rintro m t g4 ⟨k, hk', rfl, sg4, g1', g3', g4', g5', g7', g8', g9'⟩
              have hB8 := hB7.grow sg4
              have hC8 := hC7.grow sg4
              have hrow8 := hrow7.grow sg4 hlt7
              have hMg8 := hMg7.grow sg4
              have hlt8 := Nat.lt_of_lt_of_le hlt7 sg4.next
              unfold l4_2
              repeat (first
                | ((first | apply Ops.op | apply Ops.op0 | apply Drs.bar | apply Drs.pure); case e => (intro k; simp (disch := omega) only [evs, Nat.reduceEqDiff, Nat.reduceLT, reduceIte, cond_true, cond_false, List.map_cons, List.map_nil, Nat.reduceAdd, g1', g3', g4', g5', g7', g8', g9', hB8.len]; rfl))
                | ((first | apply Ops.g1 | apply Drs.g1); case e => (simp (disch := omega) only [evs, Nat.reduceEqDiff, Nat.reduceLT, reduceIte, cond_true, cond_false, List.map_cons, List.map_nil, Nat.reduceAdd, g1', g3', g4', g5', g7', g8', g9', hB8.len]))
                | ((first | apply Ops.g0t | apply Ops.g0f | apply Drs.g0t | apply Drs.g0f); case e => (simp (disch := omega) only [evs, Nat.reduceEqDiff, Nat.reduceLT, reduceIte, cond_true, cond_false, List.map_cons, List.map_nil, Nat.reduceAdd, g1', g3', g4', g5', g7', g8', g9', hB8.len]))
                | ((first | apply Ops.g0u | apply Drs.g0u); case e => (simp (disch := omega) only [evs, Nat.reduceEqDiff, Nat.reduceLT, reduceIte, cond_true, cond_false, List.map_cons, List.map_nil, Nat.reduceAdd, g1', g3', g4', g5', g7', g8', g9', hB8.len]))
                | apply Ok.seq
                | apply Ok.block
                | (apply Ok.ops (S := Sp))
                | (apply Ok.condT; case e => (simp (disch := omega) only [evs, Nat.reduceEqDiff, Nat.reduceLT, reduceIte, cond_true, cond_false, List.map_cons, List.map_nil, Nat.reduceAdd, g1', g3', g4', g5', g7', g8', g9', hB8.len]))
                | (apply Ok.condF; case e => (simp (disch := omega) only [evs, Nat.reduceEqDiff, Nat.reduceLT, reduceIte, cond_true, cond_false, List.map_cons, List.map_nil, Nat.reduceAdd, g1', g3', g4', g5', g7', g8', g9', hB8.len]))
                | ((first | apply Ops.nil | apply Drs.nil | apply Ok.skip | apply Ok.exit | apply Ok.ret); try simp only [Then_n, Then_e, Then_r, Out_n, Out_e, Out_r, Nat.reduceEqDiff, reduceIte])
                | (apply Ok.drs (S := Sp) hmix)
                )
              apply Ok.cond
              case hq => (simp (disch := omega) only [evs, Nat.reduceEqDiff, Nat.reduceLT, reduceIte, cond_true, cond_false, List.map_cons, List.map_nil, Nat.reduceAdd, g9']; rfl)
              case hb =>
                intro hc3
                repeat (first
                  | ((first | apply Ops.op | apply Ops.op0 | apply Drs.bar | apply Drs.pure); case e => (intro k; simp (disch := omega) only [evs, Nat.reduceEqDiff, Nat.reduceLT, reduceIte, cond_true, cond_false, List.map_cons, List.map_nil, Nat.reduceAdd, g1', g3', g4', g5']; rfl))
                  | ((first | apply Ops.g1 | apply Drs.g1); case e => (simp (disch := omega) only [evs, Nat.reduceEqDiff, Nat.reduceLT, reduceIte, cond_true, cond_false, List.map_cons, List.map_nil, Nat.reduceAdd, g1', g3', g4', g5']))
                  | ((first | apply Ops.g0t | apply Ops.g0f | apply Drs.g0t | apply Drs.g0f); case e => (simp (disch := omega) only [evs, Nat.reduceEqDiff, Nat.reduceLT, reduceIte, cond_true, cond_false, List.map_cons, List.map_nil, Nat.reduceAdd, g1', g3', g4', g5']))
                  | ((first | apply Ops.g0u | apply Drs.g0u); case e => (simp (disch := omega) only [evs, Nat.reduceEqDiff, Nat.reduceLT, reduceIte, cond_true, cond_false, List.map_cons, List.map_nil, Nat.reduceAdd, g1', g3', g4', g5']))
                  | apply Ok.seq
                  | apply Ok.block
                  | (apply Ok.ops (S := Sp))
                  | (apply Ok.condT; case e => (simp (disch := omega) only [evs, Nat.reduceEqDiff, Nat.reduceLT, reduceIte, cond_true, cond_false, List.map_cons, List.map_nil, Nat.reduceAdd, g1', g3', g4', g5']))
                  | (apply Ok.condF; case e => (simp (disch := omega) only [evs, Nat.reduceEqDiff, Nat.reduceLT, reduceIte, cond_true, cond_false, List.map_cons, List.map_nil, Nat.reduceAdd, g1', g3', g4', g5']))
                  | ((first | apply Ops.nil | apply Drs.nil | apply Ok.skip | apply Ok.exit | apply Ok.ret); try simp only [Then_n, Then_e, Then_r, Out_n, Out_e, Out_r, Nat.reduceEqDiff, reduceIte])
                  | (apply Ok.drs (S := Sp) hmix)
                  )
                exact ⟨n - (i + 1), by omega, i + 1, by omega, rfl, sg7.trans sg4, by simp (disch := omega) only [evs, Nat.reduceEqDiff, Nat.reduceLT, reduceIte, cond_true, cond_false, List.map_cons, List.map_nil, Nat.reduceAdd, g1'], by simp (disch := omega) only [evs, Nat.reduceEqDiff, Nat.reduceLT, reduceIte, cond_true, cond_false, List.map_cons, List.map_nil, Nat.reduceAdd, g3'], by simp (disch := omega) only [evs, Nat.reduceEqDiff, Nat.reduceLT, reduceIte, cond_true, cond_false, List.map_cons, List.map_nil, Nat.reduceAdd, g4'], by simp (disch := omega) only [evs, Nat.reduceEqDiff, Nat.reduceLT, reduceIte, cond_true, cond_false, List.map_cons, List.map_nil, Nat.reduceAdd, g5', Int.natCast_add, Int.natCast_one]⟩
              case ha =>
                intro hc3
                have hc3 := of_decide_eq_true hc3
                obtain ⟨b, hbk, hbM, hib, hbi⟩ := hget k (by omega)
                obtain ⟨j0, c0, hj0, hjc, _, hdom⟩ := hex b hbM (by rw [← hbk]; have : k < LB.length := by omega
                                                                    simp [List.getD, this])
                obtain ⟨ri, hri, hld⟩ := hMg8.rd (i := i) hiM
                have hli := hqr i hiM
                have hib' : (M.getD i []).getD b false = true := hib
                have dne : decide ((b : Int) = (i : Int)) = false := decide_eq_false (by omega)
                repeat (first
                  | ((first | apply Ops.op | apply Ops.op0 | apply Drs.bar | apply Drs.pure); case e => (intro k; simp (disch := omega) only [evs, Nat.reduceEqDiff, Nat.reduceLT, reduceIte, cond_true, cond_false, List.map_cons, List.map_nil, Nat.reduceAdd, g1', g3', g4', g5', g7', g8', g9']; rfl))
                  | ((first | apply Ops.g1 | apply Drs.g1); case e => (simp (disch := omega) only [evs, Nat.reduceEqDiff, Nat.reduceLT, reduceIte, cond_true, cond_false, List.map_cons, List.map_nil, Nat.reduceAdd, g1', g3', g4', g5', g7', g8', g9']))
                  | ((first | apply Ops.g0t | apply Ops.g0f | apply Drs.g0t | apply Drs.g0f); case e => (simp (disch := omega) only [evs, Nat.reduceEqDiff, Nat.reduceLT, reduceIte, cond_true, cond_false, List.map_cons, List.map_nil, Nat.reduceAdd, g1', g3', g4', g5', g7', g8', g9']))
                  | ((first | apply Ops.g0u | apply Drs.g0u); case e => (simp (disch := omega) only [evs, Nat.reduceEqDiff, Nat.reduceLT, reduceIte, cond_true, cond_false, List.map_cons, List.map_nil, Nat.reduceAdd, g1', g3', g4', g5', g7', g8', g9']))
                  | apply Ok.seq
                  | apply Ok.block
                  | (apply Ok.ops (S := Sp))
                  | (apply Ok.condT; case e => (simp (disch := omega) only [evs, Nat.reduceEqDiff, Nat.reduceLT, reduceIte, cond_true, cond_false, List.map_cons, List.map_nil, Nat.reduceAdd, g1', g3', g4', g5', g7', g8', g9']))
                  | (apply Ok.condF; case e => (simp (disch := omega) only [evs, Nat.reduceEqDiff, Nat.reduceLT, reduceIte, cond_true, cond_false, List.map_cons, List.map_nil, Nat.reduceAdd, g1', g3', g4', g5', g7', g8', g9']))
                  | ((first | apply Ops.nil | apply Drs.nil | apply Ok.skip | apply Ok.exit | apply Ok.ret); try simp only [Then_n, Then_e, Then_r, Out_n, Out_e, Out_r, Nat.reduceEqDiff, reduceIte])
                  | (apply Ok.drs (S := Sp) hmix)
                  )
                refine Ok.loop (fun m t g' => ∃ (j : Nat) (q : Bool), j ≤ LC.length ∧ m = LC.length - j ∧ Stay nowhere g4 g' ∧ get 1 t = .p idb 0 0 1 ∧ get 3 t = .i .i64 (n : Int) ∧ get 4 t = o ∧ get 5 t = .i .i64 (i : Int) ∧ get 7 t = bv ∧ get 8 t = cv ∧ get 9 t = .i .i64 (k : Int) ∧
                  get 10 t = .b q ∧ get 11 t = .i .i64 (j : Int) ∧ (j0 < j → q = true)) ?_ LC.length _ _ ?_
                · rintro m t g5 ⟨j, q, hj', rfl, sg5, k1, k3, k4, k5, k7, k8, k9, k10, k11, hq'⟩
                  have hB9 := hB8.grow sg5
                  have hC9 := hC8.grow sg5
                  have hrow9 := hrow8.grow sg5 hlt8
                  have hMg9 := hMg8.grow sg5
                  unfold l4_3
                  repeat (first
                    | ((first | apply Ops.op | apply Ops.op0 | apply Drs.bar | apply Drs.pure); case e => (intro k; simp (disch := omega) only [evs, Nat.reduceEqDiff, Nat.reduceLT, reduceIte, cond_true, cond_false, List.map_cons, List.map_nil, Nat.reduceAdd, k1, k3, k4, k5, k7, k8, k9, k10, k11, hC9.len]; rfl))
                    | ((first | apply Ops.g1 | apply Drs.g1); case e => (simp (disch := omega) only [evs, Nat.reduceEqDiff, Nat.reduceLT, reduceIte, cond_true, cond_false, List.map_cons, List.map_nil, Nat.reduceAdd, k1, k3, k4, k5, k7, k8, k9, k10, k11, hC9.len]))
                    | ((first | apply Ops.g0t | apply Ops.g0f | apply Drs.g0t | apply Drs.g0f); case e => (simp (disch := omega) only [evs, Nat.reduceEqDiff, Nat.reduceLT, reduceIte, cond_true, cond_false, List.map_cons, List.map_nil, Nat.reduceAdd, k1, k3, k4, k5, k7, k8, k9, k10, k11, hC9.len]))
                    | ((first | apply Ops.g0u | apply Drs.g0u); case e => (simp (disch := omega) only [evs, Nat.reduceEqDiff, Nat.reduceLT, reduceIte, cond_true, cond_false, List.map_cons, List.map_nil, Nat.reduceAdd, k1, k3, k4, k5, k7, k8, k9, k10, k11, hC9.len]))
                    | apply Ok.seq
                    | apply Ok.block
                    | (apply Ok.ops (S := Sp))
                    | (apply Ok.condT; case e => (simp (disch := omega) only [evs, Nat.reduceEqDiff, Nat.reduceLT, reduceIte, cond_true, cond_false, List.map_cons, List.map_nil, Nat.reduceAdd, k1, k3, k4, k5, k7, k8, k9, k10, k11, hC9.len]))
                    | (apply Ok.condF; case e => (simp (disch := omega) only [evs, Nat.reduceEqDiff, Nat.reduceLT, reduceIte, cond_true, cond_false, List.map_cons, List.map_nil, Nat.reduceAdd, k1, k3, k4, k5, k7, k8, k9, k10, k11, hC9.len]))
                    | ((first | apply Ops.nil | apply Drs.nil | apply Ok.skip | apply Ok.exit | apply Ok.ret); try simp only [Then_n, Then_e, Then_r, Out_n, Out_e, Out_r, Nat.reduceEqDiff, reduceIte])
                    | (apply Ok.drs (S := Sp) hmix)
                    )
                  apply Ok.cond
                  case hq => (simp (disch := omega) only [evs, Nat.reduceEqDiff, Nat.reduceLT, reduceIte, cond_true, cond_false, List.map_cons, List.map_nil, Nat.reduceAdd, k11]; rfl)
                  case hb =>
                    intro hc4
                    have hc4 := of_decide_eq_false hc4
                    have hqt := hq' (by omega)
                    subst hqt
                    obtain ⟨ri2, hri2, hld2⟩ := hMg9.rd (i := i) hiM
                    repeat (first
                      | ((first | apply Ops.op | apply Ops.op0 | apply Drs.bar | apply Drs.pure); case e => (intro k; simp (disch := omega) only [evs, Nat.reduceEqDiff, Nat.reduceLT, reduceIte, cond_true, cond_false, List.map_cons, List.map_nil, Nat.reduceAdd, k1, k3, k4, k5, k7, k8, k9, k10, k11, hrow9.rd1, hMg9.idx, hld2, hri2.idx, hri2.rd, hli, hib', hB9.idx, hB9.rd, hbk, dne]; rfl))
                      | ((first | apply Ops.g1 | apply Drs.g1); case e => (simp (disch := omega) only [evs, Nat.reduceEqDiff, Nat.reduceLT, reduceIte, cond_true, cond_false, List.map_cons, List.map_nil, Nat.reduceAdd, k1, k3, k4, k5, k7, k8, k9, k10, k11, hrow9.rd1, hMg9.idx, hld2, hri2.idx, hri2.rd, hli, hib', hB9.idx, hB9.rd, hbk, dne]))
                      | ((first | apply Ops.g0t | apply Ops.g0f | apply Drs.g0t | apply Drs.g0f); case e => (simp (disch := omega) only [evs, Nat.reduceEqDiff, Nat.reduceLT, reduceIte, cond_true, cond_false, List.map_cons, List.map_nil, Nat.reduceAdd, k1, k3, k4, k5, k7, k8, k9, k10, k11, hrow9.rd1, hMg9.idx, hld2, hri2.idx, hri2.rd, hli, hib', hB9.idx, hB9.rd, hbk, dne]))
                      | ((first | apply Ops.g0u | apply Drs.g0u); case e => (simp (disch := omega) only [evs, Nat.reduceEqDiff, Nat.reduceLT, reduceIte, cond_true, cond_false, List.map_cons, List.map_nil, Nat.reduceAdd, k1, k3, k4, k5, k7, k8, k9, k10, k11, hrow9.rd1, hMg9.idx, hld2, hri2.idx, hri2.rd, hli, hib', hB9.idx, hB9.rd, hbk, dne]))
                      | apply Ok.seq
                      | apply Ok.block
                      | (apply Ok.ops (S := Sp))
                      | (apply Ok.condT; case e => (simp (disch := omega) only [evs, Nat.reduceEqDiff, Nat.reduceLT, reduceIte, cond_true, cond_false, List.map_cons, List.map_nil, Nat.reduceAdd, k1, k3, k4, k5, k7, k8, k9, k10, k11, hrow9.rd1, hMg9.idx, hld2, hri2.idx, hri2.rd, hli, hib', hB9.idx, hB9.rd, hbk, dne]))
                      | (apply Ok.condF; case e => (simp (disch := omega) only [evs, Nat.reduceEqDiff, Nat.reduceLT, reduceIte, cond_true, cond_false, List.map_cons, List.map_nil, Nat.reduceAdd, k1, k3, k4, k5, k7, k8, k9, k10, k11, hrow9.rd1, hMg9.idx, hld2, hri2.idx, hri2.rd, hli, hib', hB9.idx, hB9.rd, hbk, dne]))
                      | ((first | apply Ops.nil | apply Drs.nil | apply Ok.skip | apply Ok.exit | apply Ok.ret); try simp only [Then_n, Then_e, Then_r, Out_n, Out_e, Out_r, Nat.reduceEqDiff, reduceIte])
                      | (apply Ok.drs (S := Sp) hmix)
                      )
                    exact ⟨LB.length - (k + 1), by omega, k + 1, by omega, rfl, sg4.trans sg5, by simp (disch := omega) only [evs, Nat.reduceEqDiff, Nat.reduceLT, reduceIte, cond_true, cond_false, List.map_cons, List.map_nil, Nat.reduceAdd, k1], by simp (disch := omega) only [evs, Nat.reduceEqDiff, Nat.reduceLT, reduceIte, cond_true, cond_false, List.map_cons, List.map_nil, Nat.reduceAdd, k3], by simp (disch := omega) only [evs, Nat.reduceEqDiff, Nat.reduceLT, reduceIte, cond_true, cond_false, List.map_cons, List.map_nil, Nat.reduceAdd, k4], by simp (disch := omega) only [evs, Nat.reduceEqDiff, Nat.reduceLT, reduceIte, cond_true, cond_false, List.map_cons, List.map_nil, Nat.reduceAdd, k5], by simp (disch := omega) only [evs, Nat.reduceEqDiff, Nat.reduceLT, reduceIte, cond_true, cond_false, List.map_cons, List.map_nil, Nat.reduceAdd, k7], by simp (disch := omega) only [evs, Nat.reduceEqDiff, Nat.reduceLT, reduceIte, cond_true, cond_false, List.map_cons, List.map_nil, Nat.reduceAdd, k8], by simp (disch := omega) only [evs, Nat.reduceEqDiff, Nat.reduceLT, reduceIte, cond_true, cond_false, List.map_cons, List.map_nil, Nat.reduceAdd, k9, Int.natCast_add, Int.natCast_one]⟩
                  case ha =>
                    intro hc4
                    have hc4 := of_decide_eq_true hc4
                    cases q
                    · obtain ⟨S7, hS7⟩ : ∃ S : Ev.Spec, S = fun f _ hh y h' => y = .b (domB M (LC.getD j 0) (b : Int)) ∧ Stay nowhere hh h' := ⟨_, rfl⟩
                      repeat (first
                        | ((first | apply Ops.op | apply Ops.op0 | apply Drs.bar | apply Drs.pure); case e => (intro k; simp (disch := omega) only [evs, Nat.reduceEqDiff, Nat.reduceLT, reduceIte, cond_true, cond_false, List.map_cons, List.map_nil, Nat.reduceAdd, k1, k3, k4, k5, k7, k8, k9, k10, k11, hrow9.rdA, hB9.idx, hB9.rd, hbk, hC9.idx, hC9.rd]; rfl))
                        | ((first | apply Ops.g1 | apply Drs.g1); case e => (simp (disch := omega) only [evs, Nat.reduceEqDiff, Nat.reduceLT, reduceIte, cond_true, cond_false, List.map_cons, List.map_nil, Nat.reduceAdd, k1, k3, k4, k5, k7, k8, k9, k10, k11, hrow9.rdA, hB9.idx, hB9.rd, hbk, hC9.idx, hC9.rd]))
                        | ((first | apply Ops.g0t | apply Ops.g0f | apply Drs.g0t | apply Drs.g0f); case e => (simp (disch := omega) only [evs, Nat.reduceEqDiff, Nat.reduceLT, reduceIte, cond_true, cond_false, List.map_cons, List.map_nil, Nat.reduceAdd, k1, k3, k4, k5, k7, k8, k9, k10, k11, hrow9.rdA, hB9.idx, hB9.rd, hbk, hC9.idx, hC9.rd]))
                        | ((first | apply Ops.g0u | apply Drs.g0u); case e => (simp (disch := omega) only [evs, Nat.reduceEqDiff, Nat.reduceLT, reduceIte, cond_true, cond_false, List.map_cons, List.map_nil, Nat.reduceAdd, k1, k3, k4, k5, k7, k8, k9, k10, k11, hrow9.rdA, hB9.idx, hB9.rd, hbk, hC9.idx, hC9.rd]))
                        | apply Ok.seq
                        | apply Ok.block
                        | (apply Ok.ops (S := S7))
                        | (apply Ok.condT; case e => (simp (disch := omega) only [evs, Nat.reduceEqDiff, Nat.reduceLT, reduceIte, cond_true, cond_false, List.map_cons, List.map_nil, Nat.reduceAdd, k1, k3, k4, k5, k7, k8, k9, k10, k11, hrow9.rdA, hB9.idx, hB9.rd, hbk, hC9.idx, hC9.rd]))
                        | (apply Ok.condF; case e => (simp (disch := omega) only [evs, Nat.reduceEqDiff, Nat.reduceLT, reduceIte, cond_true, cond_false, List.map_cons, List.map_nil, Nat.reduceAdd, k1, k3, k4, k5, k7, k8, k9, k10, k11, hrow9.rdA, hB9.idx, hB9.rd, hbk, hC9.idx, hC9.rd]))
                        | ((first | apply Ops.nil | apply Drs.nil | apply Ok.skip | apply Ok.exit | apply Ok.ret); try simp only [Then_n, Then_e, Then_r, Out_n, Out_e, Out_r, Nat.reduceEqDiff, reduceIte])
                        | (apply Ok.drs (S := S7) hmix)
                        )
                      apply Drs.callBar
                      case e => (simp (disch := omega) only [evs, Nat.reduceEqDiff, Nat.reduceLT, reduceIte, cond_true, cond_false, List.map_cons, List.map_nil, Nat.reduceAdd]; rfl)
                      case hf => rw [hS7]; exact dom_ok hMg9 (by omega) _ _
                      case k =>
                      rw [hS7]
                      rintro y g6 ⟨rfl, s9⟩
                      repeat (first
                        | ((first | apply Ops.op | apply Ops.op0 | apply Drs.bar | apply Drs.pure); case e => (intro k; simp (disch := omega) only [evs, Nat.reduceEqDiff, Nat.reduceLT, reduceIte, cond_true, cond_false, List.map_cons, List.map_nil, Nat.reduceAdd, k1, k3, k4, k5, k7, k8, k9, k10, k11]; rfl))
                        | ((first | apply Ops.g1 | apply Drs.g1); case e => (simp (disch := omega) only [evs, Nat.reduceEqDiff, Nat.reduceLT, reduceIte, cond_true, cond_false, List.map_cons, List.map_nil, Nat.reduceAdd, k1, k3, k4, k5, k7, k8, k9, k10, k11]))
                        | ((first | apply Ops.g0t | apply Ops.g0f | apply Drs.g0t | apply Drs.g0f); case e => (simp (disch := omega) only [evs, Nat.reduceEqDiff, Nat.reduceLT, reduceIte, cond_true, cond_false, List.map_cons, List.map_nil, Nat.reduceAdd, k1, k3, k4, k5, k7, k8, k9, k10, k11]))
                        | ((first | apply Ops.g0u | apply Drs.g0u); case e => (simp (disch := omega) only [evs, Nat.reduceEqDiff, Nat.reduceLT, reduceIte, cond_true, cond_false, List.map_cons, List.map_nil, Nat.reduceAdd, k1, k3, k4, k5, k7, k8, k9, k10, k11]))
                        | apply Ok.seq
                        | apply Ok.block
                        | (apply Ok.ops (S := Sp))
                        | (apply Ok.condT; case e => (simp (disch := omega) only [evs, Nat.reduceEqDiff, Nat.reduceLT, reduceIte, cond_true, cond_false, List.map_cons, List.map_nil, Nat.reduceAdd, k1, k3, k4, k5, k7, k8, k9, k10, k11]))
                        | (apply Ok.condF; case e => (simp (disch := omega) only [evs, Nat.reduceEqDiff, Nat.reduceLT, reduceIte, cond_true, cond_false, List.map_cons, List.map_nil, Nat.reduceAdd, k1, k3, k4, k5, k7, k8, k9, k10, k11]))
                        | ((first | apply Ops.nil | apply Drs.nil | apply Ok.skip | apply Ok.exit | apply Ok.ret); try simp only [Then_n, Then_e, Then_r, Out_n, Out_e, Out_r, Nat.reduceEqDiff, reduceIte])
                        | (apply Ok.drs (S := Sp) hmix)
                        )
                      refine ⟨LC.length - (j + 1), by omega, j + 1, domB M (LC.getD j 0) (b : Int), by omega, rfl, sg5.trans s9, by simp (disch := omega) only [evs, Nat.reduceEqDiff, Nat.reduceLT, reduceIte, cond_true, cond_false, List.map_cons, List.map_nil, Nat.reduceAdd, k1], by simp (disch := omega) only [evs, Nat.reduceEqDiff, Nat.reduceLT, reduceIte, cond_true, cond_false, List.map_cons, List.map_nil, Nat.reduceAdd, k3], by simp (disch := omega) only [evs, Nat.reduceEqDiff, Nat.reduceLT, reduceIte, cond_true, cond_false, List.map_cons, List.map_nil, Nat.reduceAdd, k4], by simp (disch := omega) only [evs, Nat.reduceEqDiff, Nat.reduceLT, reduceIte, cond_true, cond_false, List.map_cons, List.map_nil, Nat.reduceAdd, k5], by simp (disch := omega) only [evs, Nat.reduceEqDiff, Nat.reduceLT, reduceIte, cond_true, cond_false, List.map_cons, List.map_nil, Nat.reduceAdd, k7], by simp (disch := omega) only [evs, Nat.reduceEqDiff, Nat.reduceLT, reduceIte, cond_true, cond_false, List.map_cons, List.map_nil, Nat.reduceAdd, k8], by simp (disch := omega) only [evs, Nat.reduceEqDiff, Nat.reduceLT, reduceIte, cond_true, cond_false, List.map_cons, List.map_nil, Nat.reduceAdd, k9], by simp (disch := omega) only [evs, Nat.reduceEqDiff, Nat.reduceLT, reduceIte, cond_true, cond_false, List.map_cons, List.map_nil, Nat.reduceAdd], by simp (disch := omega) only [evs, Nat.reduceEqDiff, Nat.reduceLT, reduceIte, cond_true, cond_false, List.map_cons, List.map_nil, Nat.reduceAdd, k11, Int.natCast_add, Int.natCast_one], ?_⟩
                      intro h7
                      rcases Nat.lt_or_ge j0 j with h8 | h8
                      · have := hq' h8; cases this
                      · have : j = j0 := by omega
                        subst this
                        rw [hjc]; exact hdom
                    · repeat (first
                        | ((first | apply Ops.op | apply Ops.op0 | apply Drs.bar | apply Drs.pure); case e => (intro k; simp (disch := omega) only [evs, Nat.reduceEqDiff, Nat.reduceLT, reduceIte, cond_true, cond_false, List.map_cons, List.map_nil, Nat.reduceAdd, k1, k3, k4, k5, k7, k8, k9, k10, k11]; rfl))
                        | ((first | apply Ops.g1 | apply Drs.g1); case e => (simp (disch := omega) only [evs, Nat.reduceEqDiff, Nat.reduceLT, reduceIte, cond_true, cond_false, List.map_cons, List.map_nil, Nat.reduceAdd, k1, k3, k4, k5, k7, k8, k9, k10, k11]))
                        | ((first | apply Ops.g0t | apply Ops.g0f | apply Drs.g0t | apply Drs.g0f); case e => (simp (disch := omega) only [evs, Nat.reduceEqDiff, Nat.reduceLT, reduceIte, cond_true, cond_false, List.map_cons, List.map_nil, Nat.reduceAdd, k1, k3, k4, k5, k7, k8, k9, k10, k11]))
                        | ((first | apply Ops.g0u | apply Drs.g0u); case e => (simp (disch := omega) only [evs, Nat.reduceEqDiff, Nat.reduceLT, reduceIte, cond_true, cond_false, List.map_cons, List.map_nil, Nat.reduceAdd, k1, k3, k4, k5, k7, k8, k9, k10, k11]))
                        | apply Ok.seq
                        | apply Ok.block
                        | (apply Ok.ops (S := Sp))
                        | (apply Ok.condT; case e => (simp (disch := omega) only [evs, Nat.reduceEqDiff, Nat.reduceLT, reduceIte, cond_true, cond_false, List.map_cons, List.map_nil, Nat.reduceAdd, k1, k3, k4, k5, k7, k8, k9, k10, k11]))
                        | (apply Ok.condF; case e => (simp (disch := omega) only [evs, Nat.reduceEqDiff, Nat.reduceLT, reduceIte, cond_true, cond_false, List.map_cons, List.map_nil, Nat.reduceAdd, k1, k3, k4, k5, k7, k8, k9, k10, k11]))
                        | ((first | apply Ops.nil | apply Drs.nil | apply Ok.skip | apply Ok.exit | apply Ok.ret); try simp only [Then_n, Then_e, Then_r, Out_n, Out_e, Out_r, Nat.reduceEqDiff, reduceIte])
                        | (apply Ok.drs (S := Sp) hmix)
                        )
                      exact ⟨LC.length - (j + 1), by omega, j + 1, true, by omega, rfl, sg5, by simp (disch := omega) only [evs, Nat.reduceEqDiff, Nat.reduceLT, reduceIte, cond_true, cond_false, List.map_cons, List.map_nil, Nat.reduceAdd, k1], by simp (disch := omega) only [evs, Nat.reduceEqDiff, Nat.reduceLT, reduceIte, cond_true, cond_false, List.map_cons, List.map_nil, Nat.reduceAdd, k3], by simp (disch := omega) only [evs, Nat.reduceEqDiff, Nat.reduceLT, reduceIte, cond_true, cond_false, List.map_cons, List.map_nil, Nat.reduceAdd, k4], by simp (disch := omega) only [evs, Nat.reduceEqDiff, Nat.reduceLT, reduceIte, cond_true, cond_false, List.map_cons, List.map_nil, Nat.reduceAdd, k5], by simp (disch := omega) only [evs, Nat.reduceEqDiff, Nat.reduceLT, reduceIte, cond_true, cond_false, List.map_cons, List.map_nil, Nat.reduceAdd, k7], by simp (disch := omega) only [evs, Nat.reduceEqDiff, Nat.reduceLT, reduceIte, cond_true, cond_false, List.map_cons, List.map_nil, Nat.reduceAdd, k8], by simp (disch := omega) only [evs, Nat.reduceEqDiff, Nat.reduceLT, reduceIte, cond_true, cond_false, List.map_cons, List.map_nil, Nat.reduceAdd, k9], by simp (disch := omega) only [evs, Nat.reduceEqDiff, Nat.reduceLT, reduceIte, cond_true, cond_false, List.map_cons, List.map_nil, Nat.reduceAdd], by simp (disch := omega) only [evs, Nat.reduceEqDiff, Nat.reduceLT, reduceIte, cond_true, cond_false, List.map_cons, List.map_nil, Nat.reduceAdd, k11, Int.natCast_add, Int.natCast_one], fun _ => rfl⟩
                · exact ⟨0, false, Nat.zero_le _, rfl, Stay.refl _ _, by simp (disch := omega) only [evs, Nat.reduceEqDiff, Nat.reduceLT, reduceIte, cond_true, cond_false, List.map_cons, List.map_nil, Nat.reduceAdd, g1'], by simp (disch := omega) only [evs, Nat.reduceEqDiff, Nat.reduceLT, reduceIte, cond_true, cond_false, List.map_cons, List.map_nil, Nat.reduceAdd, g3'], by simp (disch := omega) only [evs, Nat.reduceEqDiff, Nat.reduceLT, reduceIte, cond_true, cond_false, List.map_cons, List.map_nil, Nat.reduceAdd, g4'], by simp (disch := omega) only [evs, Nat.reduceEqDiff, Nat.reduceLT, reduceIte, cond_true, cond_false, List.map_cons, List.map_nil, Nat.reduceAdd, g5'], by simp (disch := omega) only [evs, Nat.reduceEqDiff, Nat.reduceLT, reduceIte, cond_true, cond_false, List.map_cons, List.map_nil, Nat.reduceAdd, g7'], by simp (disch := omega) only [evs, Nat.reduceEqDiff, Nat.reduceLT, reduceIte, cond_true, cond_false, List.map_cons, List.map_nil, Nat.reduceAdd, g8'], by simp (disch := omega) only [evs, Nat.reduceEqDiff, Nat.reduceLT, reduceIte, cond_true, cond_false, List.map_cons, List.map_nil, Nat.reduceAdd, g9'], by simp (disch := omega) only [evs, Nat.reduceEqDiff, Nat.reduceLT, reduceIte, cond_true, cond_false, List.map_cons, List.map_nil, Nat.reduceAdd], by simp (disch := omega) only [evs, Nat.reduceEqDiff, Nat.reduceLT, reduceIte, cond_true, cond_false, List.map_cons, List.map_nil, Nat.reduceAdd], fun h => absurd h (Nat.not_lt_zero _)⟩
            · exact ⟨0, Nat.zero_le _, rfl, Stay.refl _ _, by simp (disch := omega) only [evs, Nat.reduceEqDiff, Nat.reduceLT, reduceIte, cond_true, cond_false, List.map_cons, List.map_nil, Nat.reduceAdd, e1], by simp (disch := omega) only [evs, Nat.reduceEqDiff, Nat.reduceLT, reduceIte, cond_true, cond_false, List.map_cons, List.map_nil, Nat.reduceAdd, e3], by simp (disch := omega) only [evs, Nat.reduceEqDiff, Nat.reduceLT, reduceIte, cond_true, cond_false, List.map_cons, List.map_nil, Nat.reduceAdd, e4], by simp (disch := omega) only [evs, Nat.reduceEqDiff, Nat.reduceLT, reduceIte, cond_true, cond_false, List.map_cons, List.map_nil, Nat.reduceAdd, e5], by simp (disch := omega) only [evs, Nat.reduceEqDiff, Nat.reduceLT, reduceIte, cond_true, cond_false, List.map_cons, List.map_nil, Nat.reduceAdd], by simp (disch := omega) only [evs, Nat.reduceEqDiff, Nat.reduceLT, reduceIte, cond_true, cond_false, List.map_cons, List.map_nil, Nat.reduceAdd], by simp (disch := omega) only [evs, Nat.reduceEqDiff, Nat.reduceLT, reduceIte, cond_true, cond_false, List.map_cons, List.map_nil, Nat.reduceAdd]⟩
        case ha =>
          intro hc2
          have hc2 := of_decide_eq_true hc2
          obtain ⟨o1, o2⟩ := order_lt hck (k := k) (i := i) (by omega) hiM
          have dne : decide ((orderL M).getD k 0 = (orderL M).getD i 0) = false := decide_eq_false o1
          obtain ⟨S5, hS5⟩ : ∃ S : Ev.Spec, S = fun f _ hh y h' => y = .b (aboveB M ((orderL M).getD k 0) ((orderL M).getD i 0)) ∧ Stay nowhere hh h' := ⟨_, rfl⟩
          repeat (first
            | ((first | apply Ops.op | apply Ops.op0 | apply Drs.bar | apply Drs.pure); case e => (intro k; simp (disch := omega) only [evs, Nat.reduceEqDiff, Nat.reduceLT, reduceIte, cond_true, cond_false, List.map_cons, List.map_nil, Nat.reduceAdd, e1, e3, e4, e5, e6, hrow1.rdA, hOg1.idx, hOg1.rd, dne]; rfl))
            | ((first | apply Ops.g1 | apply Drs.g1); case e => (simp (disch := omega) only [evs, Nat.reduceEqDiff, Nat.reduceLT, reduceIte, cond_true, cond_false, List.map_cons, List.map_nil, Nat.reduceAdd, e1, e3, e4, e5, e6, hrow1.rdA, hOg1.idx, hOg1.rd, dne]))
            | ((first | apply Ops.g0t | apply Ops.g0f | apply Drs.g0t | apply Drs.g0f); case e => (simp (disch := omega) only [evs, Nat.reduceEqDiff, Nat.reduceLT, reduceIte, cond_true, cond_false, List.map_cons, List.map_nil, Nat.reduceAdd, e1, e3, e4, e5, e6, hrow1.rdA, hOg1.idx, hOg1.rd, dne]))
            | ((first | apply Ops.g0u | apply Drs.g0u); case e => (simp (disch := omega) only [evs, Nat.reduceEqDiff, Nat.reduceLT, reduceIte, cond_true, cond_false, List.map_cons, List.map_nil, Nat.reduceAdd, e1, e3, e4, e5, e6, hrow1.rdA, hOg1.idx, hOg1.rd, dne]))
            | apply Ok.seq
            | apply Ok.block
            | (apply Ok.ops (S := S5))
            | (apply Ok.condT; case e => (simp (disch := omega) only [evs, Nat.reduceEqDiff, Nat.reduceLT, reduceIte, cond_true, cond_false, List.map_cons, List.map_nil, Nat.reduceAdd, e1, e3, e4, e5, e6, hrow1.rdA, hOg1.idx, hOg1.rd, dne]))
            | (apply Ok.condF; case e => (simp (disch := omega) only [evs, Nat.reduceEqDiff, Nat.reduceLT, reduceIte, cond_true, cond_false, List.map_cons, List.map_nil, Nat.reduceAdd, e1, e3, e4, e5, e6, hrow1.rdA, hOg1.idx, hOg1.rd, dne]))
            | ((first | apply Ops.nil | apply Drs.nil | apply Ok.skip | apply Ok.exit | apply Ok.ret); try simp only [Then_n, Then_e, Then_r, Out_n, Out_e, Out_r, Nat.reduceEqDiff, reduceIte])
            | (apply Ok.drs (S := S5) hmix)
            )
          apply Drs.callBar
          case e => (simp (disch := omega) only [evs, Nat.reduceEqDiff, Nat.reduceLT, reduceIte, cond_true, cond_false, List.map_cons, List.map_nil, Nat.reduceAdd]; rfl)
          case hf => rw [hS5]; exact above_ok hMg1 (by omega) _ _
          case k =>
          rw [hS5]
          rintro y g2 ⟨rfl, s8⟩
          repeat (first
            | ((first | apply Ops.op | apply Ops.op0 | apply Drs.bar | apply Drs.pure); case e => (intro k; simp (disch := omega) only [evs, Nat.reduceEqDiff, Nat.reduceLT, reduceIte, cond_true, cond_false, List.map_cons, List.map_nil, Nat.reduceAdd, e1, e3, e4, e5, e6, o2, dne]; rfl))
            | ((first | apply Ops.g1 | apply Drs.g1); case e => (simp (disch := omega) only [evs, Nat.reduceEqDiff, Nat.reduceLT, reduceIte, cond_true, cond_false, List.map_cons, List.map_nil, Nat.reduceAdd, e1, e3, e4, e5, e6, o2, dne]))
            | ((first | apply Ops.g0t | apply Ops.g0f | apply Drs.g0t | apply Drs.g0f); case e => (simp (disch := omega) only [evs, Nat.reduceEqDiff, Nat.reduceLT, reduceIte, cond_true, cond_false, List.map_cons, List.map_nil, Nat.reduceAdd, e1, e3, e4, e5, e6, o2, dne]))
            | ((first | apply Ops.g0u | apply Drs.g0u); case e => (simp (disch := omega) only [evs, Nat.reduceEqDiff, Nat.reduceLT, reduceIte, cond_true, cond_false, List.map_cons, List.map_nil, Nat.reduceAdd, e1, e3, e4, e5, e6, o2, dne]))
            | apply Ok.seq
            | apply Ok.block
            | (apply Ok.ops (S := Sp))
            | (apply Ok.condT; case e => (simp (disch := omega) only [evs, Nat.reduceEqDiff, Nat.reduceLT, reduceIte, cond_true, cond_false, List.map_cons, List.map_nil, Nat.reduceAdd, e1, e3, e4, e5, e6, o2, dne]))
            | (apply Ok.condF; case e => (simp (disch := omega) only [evs, Nat.reduceEqDiff, Nat.reduceLT, reduceIte, cond_true, cond_false, List.map_cons, List.map_nil, Nat.reduceAdd, e1, e3, e4, e5, e6, o2, dne]))
            | ((first | apply Ops.nil | apply Drs.nil | apply Ok.skip | apply Ok.exit | apply Ok.ret); try simp only [Then_n, Then_e, Then_r, Out_n, Out_e, Out_r, Nat.reduceEqDiff, reduceIte])
            | (apply Ok.drs (S := Sp) hmix)
            )
          exact ⟨i - (k + 1), by omega, k + 1, by omega, rfl, sg1.trans s8, by simp (disch := omega) only [evs, Nat.reduceEqDiff, Nat.reduceLT, reduceIte, cond_true, cond_false, List.map_cons, List.map_nil, Nat.reduceAdd, e1], by simp (disch := omega) only [evs, Nat.reduceEqDiff, Nat.reduceLT, reduceIte, cond_true, cond_false, List.map_cons, List.map_nil, Nat.reduceAdd, e3], by simp (disch := omega) only [evs, Nat.reduceEqDiff, Nat.reduceLT, reduceIte, cond_true, cond_false, List.map_cons, List.map_nil, Nat.reduceAdd, e4], by simp (disch := omega) only [evs, Nat.reduceEqDiff, Nat.reduceLT, reduceIte, cond_true, cond_false, List.map_cons, List.map_nil, Nat.reduceAdd, e5], by simp (disch := omega) only [evs, Nat.reduceEqDiff, Nat.reduceLT, reduceIte, cond_true, cond_false, List.map_cons, List.map_nil, Nat.reduceAdd, e6, Int.natCast_add, Int.natCast_one]⟩
      · exact ⟨0, Nat.zero_le _, rfl, Stay.refl _ _, by simp (disch := omega) only [evs, Nat.reduceEqDiff, Nat.reduceLT, reduceIte, cond_true, cond_false, List.map_cons, List.map_nil, Nat.reduceAdd, f1], by simp (disch := omega) only [evs, Nat.reduceEqDiff, Nat.reduceLT, reduceIte, cond_true, cond_false, List.map_cons, List.map_nil, Nat.reduceAdd, f3], by simp (disch := omega) only [evs, Nat.reduceEqDiff, Nat.reduceLT, reduceIte, cond_true, cond_false, List.map_cons, List.map_nil, Nat.reduceAdd, f4], by simp (disch := omega) only [evs, Nat.reduceEqDiff, Nat.reduceLT, reduceIte, cond_true, cond_false, List.map_cons, List.map_nil, Nat.reduceAdd, f5], by simp (disch := omega) only [evs, Nat.reduceEqDiff, Nat.reduceLT, reduceIte, cond_true, cond_false, List.map_cons, List.map_nil, Nat.reduceAdd]⟩
  · exact ⟨0, Nat.zero_le _, rfl, Stay.refl _ _, by simp (disch := omega) only [evs, Nat.reduceEqDiff, Nat.reduceLT, reduceIte, cond_true, cond_false, List.map_cons, List.map_nil, Nat.reduceAdd], by simp (disch := omega) only [evs, Nat.reduceEqDiff, Nat.reduceLT, reduceIte, cond_true, cond_false, List.map_cons, List.map_nil, Nat.reduceAdd], by simp (disch := omega) only [evs, Nat.reduceEqDiff, Nat.reduceLT, reduceIte, cond_true, cond_false, List.map_cons, List.map_nil, Nat.reduceAdd], by simp (disch := omega) only [evs, Nat.reduceEqDiff, Nat.reduceLT, reduceIte, cond_true, cond_false, List.map_cons, List.map_nil, Nat.reduceAdd]⟩
end Go.Proofs.Ytlnigbjbnpkdhaa
