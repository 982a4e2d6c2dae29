/- The document's Join, Covers of a lattice, by what they compute. No condition. -/
import Derived.Test.YtpnflehemjbemaaLat16
import Derived.Test.YtpnflehemjbemaaIrLat7
set_option maxRecDepth 100000
set_option maxHeartbeats 8000000
set_option linter.all false
namespace Go.Proofs.Ytpnflehemjbemaa
open Go Go.Ev

section
variable {h : H} {v : V} {M : Mt}
theorem sr_rbelow (hM : Mx h v M) (hs : M.length ≤ 1000000) (hrl : ∀ i, i < M.length → (M.getD i []).length ≤ 1000000) (hf : B.val h.floor ≤ B.val h.next) (a : Int) : FnOk Try.prog 25 [.a [v], .i .i64 a] h (SR v M 25 [.a [v], .i .i64 a] h) :=
  (rbelow_ok hM hs hrl hf a).mono fun y h' hk a' e => by cases e; exact hk

theorem rjoin_ok (hM : Mx h v M) (hs : M.length ≤ 1000000) (hrl : ∀ i, i < M.length → (M.getD i []).length ≤ 1000000) (a b : Int) : FnOk Try.prog 14 [.a [v], .i .i64 a, .i .i64 b] h fun y h' => y = .tu [.i .i64 (joinP M a b).1, .b (joinP M a b).2] ∧ Stay nowhere h h' := by
  refine fn_run c14 (by intro hb; cases hb) (by simp) (by simp) ?_
  simp only [slotsF, Nat.reduceAdd]
  unfold b14
  rw [← rj_eq]
  obtain ⟨Sx, hSx⟩ : ∃ S, S = SR v M := ⟨_, rfl⟩
  have hlv := lvls_le (M := M)
  repeat (first
    | ((first | apply Ops.op | apply Ops.op0 | apply Drs.bar | apply Drs.pure); case e => (intro k; simp (disch := omega) only [evs, Nat.reduceEqDiff, Nat.reduceLT, reduceIte, cond_true, cond_false, Nat.reduceAdd]; rfl))
    | ((first | apply Ops.g1 | apply Drs.g1); case e => (simp (disch := omega) only [evs, Nat.reduceEqDiff, Nat.reduceLT, reduceIte]))
    | ((first | apply Ops.g0t | apply Ops.g0f | apply Drs.g0t | apply Drs.g0f); case e => (simp (disch := omega) only [evs, Nat.reduceEqDiff, Nat.reduceLT, reduceIte]))
    | ((first | apply Ops.g0u | apply Drs.g0u); case e => (simp (disch := omega) only [evs, Nat.reduceEqDiff, Nat.reduceLT, reduceIte]))
    | apply Ok.seq
    | apply Ok.block
    | (apply Ok.ops (S := Sp))
    | (apply Ok.condT; case e => (simp (disch := omega) only [evs, Nat.reduceEqDiff, Nat.reduceLT, reduceIte]))
    | (apply Ok.condF; case e => (simp (disch := omega) only [evs, Nat.reduceEqDiff, Nat.reduceLT, reduceIte]))
    | ((first | apply Ops.nil | apply Drs.nil | apply Ok.skip | apply Ok.exit | apply Ok.ret); try simp only [Then_n, Then_e, Then_r, Out_n, Out_e, Out_r, Nat.reduceEqDiff, reduceIte])
    | (apply Ok.drs (S := Sp) hmix)
    )
  apply Ops.box1
  case e => (simp (disch := omega) only [evs, Nat.reduceEqDiff, Nat.reduceLT, reduceIte, cond_true, cond_false, List.map_cons, List.map_nil, Nat.reduceAdd]; rfl)
  case k =>
  intro h1 id st hlt hge hrow
  have hM1 := hM.grow st
  repeat (first
    | ((first | apply Ops.op | apply Ops.op0 | apply Drs.bar | apply Drs.pure); case e => (intro k; simp (disch := omega) only [evs, Nat.reduceEqDiff, Nat.reduceLT, reduceIte, cond_true, cond_false, Nat.reduceAdd]; rfl))
    | ((first | apply Ops.g1 | apply Drs.g1); case e => (simp (disch := omega) only [evs, Nat.reduceEqDiff, Nat.reduceLT, reduceIte]))
    | ((first | apply Ops.g0t | apply Ops.g0f | apply Drs.g0t | apply Drs.g0f); case e => (simp (disch := omega) only [evs, Nat.reduceEqDiff, Nat.reduceLT, reduceIte]))
    | ((first | apply Ops.g0u | apply Drs.g0u); case e => (simp (disch := omega) only [evs, Nat.reduceEqDiff, Nat.reduceLT, reduceIte]))
    | apply Ok.seq
    | apply Ok.block
    | (apply Ok.ops (S := Sx))
    | (apply Ok.condT; case e => (simp (disch := omega) only [evs, Nat.reduceEqDiff, Nat.reduceLT, reduceIte]))
    | (apply Ok.condF; case e => (simp (disch := omega) only [evs, Nat.reduceEqDiff, Nat.reduceLT, reduceIte]))
    | ((first | apply Ops.nil | apply Drs.nil | apply Ok.skip | apply Ok.exit | apply Ok.ret); try simp only [Then_n, Then_e, Then_r, Out_n, Out_e, Out_r, Nat.reduceEqDiff, reduceIte])
    | (apply Ok.drs (S := Sx) hmix)
    )
  refine Ok.loop (fun m t g => ∃ c : Nat, c ≤ lvls M ∧ m = lvls M - c ∧ Stay nowhere h1 g ∧ get 1 t = .i .i64 a ∧ get 2 t = .i .i64 b ∧ get 3 t = .p id 0 0 1 ∧ get 8 t = .i .i64 (c : Int) ∧ ∀ i, i < c → rjB M a b i = false) ?_ (lvls M) _ _ ?_
  case refine_2 => exact ⟨0, Nat.zero_le _, rfl, Stay.refl _ _, by simp (disch := omega) only [evs, Nat.reduceEqDiff, Nat.reduceLT, reduceIte, cond_true, cond_false, List.map_cons, List.map_nil, Nat.reduceAdd], by simp (disch := omega) only [evs, Nat.reduceEqDiff, Nat.reduceLT, reduceIte, cond_true, cond_false, List.map_cons, List.map_nil, Nat.reduceAdd], by simp (disch := omega) only [evs, Nat.reduceEqDiff, Nat.reduceLT, reduceIte, cond_true, cond_false, List.map_cons, List.map_nil, Nat.reduceAdd], by simp (disch := omega) only [evs, Nat.reduceEqDiff, Nat.reduceLT, reduceIte, cond_true, cond_false, List.map_cons, List.map_nil, Nat.reduceAdd], fun i hi => absurd hi (Nat.not_lt_zero _)⟩
  rintro m t g ⟨c, hc', rfl, sg, f1, f2, f3, f8, hF⟩
  have hrowg := hrow.grow sg hlt
  have hMg := hM1.grow sg
  unfold l14_0
  repeat (first
    | ((first | apply Ops.op | apply Ops.op0 | apply Drs.bar | apply Drs.pure); case e => (intro k; simp (disch := omega) only [evs, Nat.reduceEqDiff, Nat.reduceLT, reduceIte, cond_true, cond_false, Nat.reduceAdd, f1, f2, f3, f8, hrowg.rdA]; rfl))
    | ((first | apply Ops.g1 | apply Drs.g1); case e => (simp (disch := omega) only [evs, Nat.reduceEqDiff, Nat.reduceLT, reduceIte, f1, f2, f3, f8, hrowg.rdA]))
    | ((first | apply Ops.g0t | apply Ops.g0f | apply Drs.g0t | apply Drs.g0f); case e => (simp (disch := omega) only [evs, Nat.reduceEqDiff, Nat.reduceLT, reduceIte, f1, f2, f3, f8, hrowg.rdA]))
    | ((first | apply Ops.g0u | apply Drs.g0u); case e => (simp (disch := omega) only [evs, Nat.reduceEqDiff, Nat.reduceLT, reduceIte, f1, f2, f3, f8, hrowg.rdA]))
    | apply Ok.seq
    | apply Ok.block
    | (apply Ok.ops (S := Sx))
    | (apply Ok.condT; case e => (simp (disch := omega) only [evs, Nat.reduceEqDiff, Nat.reduceLT, reduceIte, f1, f2, f3, f8, hrowg.rdA]))
    | (apply Ok.condF; case e => (simp (disch := omega) only [evs, Nat.reduceEqDiff, Nat.reduceLT, reduceIte, f1, f2, f3, f8, hrowg.rdA]))
    | ((first | apply Ops.nil | apply Drs.nil | apply Ok.skip | apply Ok.exit | apply Ok.ret); try simp only [Then_n, Then_e, Then_r, Out_n, Out_e, Out_r, Nat.reduceEqDiff, reduceIte])
    | (apply Ok.drs (S := Sx) hmix)
    )
  apply Ops.call
  case e => (simp (disch := omega) only [evs, Nat.reduceEqDiff, Nat.reduceLT, reduceIte, cond_true, cond_false, List.map_cons, List.map_nil, Nat.reduceAdd]; rfl)
  case hf => rw [hSx]; exact sr_rlevels hMg hs hrl
  case k =>
  intro y g2 hy
  rw [hSx] at hy
  obtain ⟨rfl, s2⟩ := hy
  have sg2 := sg.trans s2
  have hrow2 := hrow.grow sg2 hlt
  have hM2 := hM1.grow sg2
  repeat (first
    | ((first | apply Ops.op | apply Ops.op0 | apply Drs.bar | apply Drs.pure); case e => (intro k; simp (disch := omega) only [evs, Nat.reduceEqDiff, Nat.reduceLT, reduceIte, cond_true, cond_false, Nat.reduceAdd, f1, f2, f3, f8]; rfl))
    | ((first | apply Ops.g1 | apply Drs.g1); case e => (simp (disch := omega) only [evs, Nat.reduceEqDiff, Nat.reduceLT, reduceIte, f1, f2, f3, f8]))
    | ((first | apply Ops.g0t | apply Ops.g0f | apply Drs.g0t | apply Drs.g0f); case e => (simp (disch := omega) only [evs, Nat.reduceEqDiff, Nat.reduceLT, reduceIte, f1, f2, f3, f8]))
    | ((first | apply Ops.g0u | apply Drs.g0u); case e => (simp (disch := omega) only [evs, Nat.reduceEqDiff, Nat.reduceLT, reduceIte, f1, f2, f3, f8]))
    | apply Ok.seq
    | apply Ok.block
    | (apply Ok.ops (S := Sx))
    | (apply Ok.condT; case e => (simp (disch := omega) only [evs, Nat.reduceEqDiff, Nat.reduceLT, reduceIte, f1, f2, f3, f8]))
    | (apply Ok.condF; case e => (simp (disch := omega) only [evs, Nat.reduceEqDiff, Nat.reduceLT, reduceIte, f1, f2, f3, f8]))
    | ((first | apply Ops.nil | apply Drs.nil | apply Ok.skip | apply Ok.exit | apply Ok.ret); try simp only [Then_n, Then_e, Then_r, Out_n, Out_e, Out_r, Nat.reduceEqDiff, reduceIte])
    | (apply Ok.drs (S := Sx) hmix)
    )
  apply Ok.cond
  case hq => (simp (disch := omega) only [evs, Nat.reduceEqDiff, Nat.reduceLT, reduceIte, cond_true, cond_false, List.map_cons, List.map_nil, Nat.reduceAdd, f8]; rfl)
  case hb =>
    intro hc
    have hc := of_decide_eq_false hc
    have : c = lvls M := by omega
    subst this
    repeat (first
      | ((first | apply Ops.op | apply Ops.op0 | apply Drs.bar | apply Drs.pure); case e => (intro k; simp (disch := omega) only [evs, Nat.reduceEqDiff, Nat.reduceLT, reduceIte, cond_true, cond_false, Nat.reduceAdd]; rfl))
      | ((first | apply Ops.g1 | apply Drs.g1); case e => (simp (disch := omega) only [evs, Nat.reduceEqDiff, Nat.reduceLT, reduceIte]))
      | ((first | apply Ops.g0t | apply Ops.g0f | apply Drs.g0t | apply Drs.g0f); case e => (simp (disch := omega) only [evs, Nat.reduceEqDiff, Nat.reduceLT, reduceIte]))
      | ((first | apply Ops.g0u | apply Drs.g0u); case e => (simp (disch := omega) only [evs, Nat.reduceEqDiff, Nat.reduceLT, reduceIte]))
      | apply Ok.seq
      | apply Ok.block
      | (apply Ok.ops (S := Sp))
      | (apply Ok.condT; case e => (simp (disch := omega) only [evs, Nat.reduceEqDiff, Nat.reduceLT, reduceIte]))
      | (apply Ok.condF; case e => (simp (disch := omega) only [evs, Nat.reduceEqDiff, Nat.reduceLT, reduceIte]))
      | ((first | apply Ops.nil | apply Drs.nil | apply Ok.skip | apply Ok.exit | apply Ok.ret); try simp only [Then_n, Then_e, Then_r, Out_n, Out_e, Out_r, Nat.reduceEqDiff, reduceIte])
      | (apply Ok.drs (S := Sp) hmix)
      )
    refine ⟨_, fun k => res_2 _ _ _ _ k, ?_⟩
    simp (disch := omega) only [evs, Nat.reduceEqDiff, Nat.reduceLT, reduceIte, cond_true, cond_false, List.map_cons, List.map_nil, Nat.reduceAdd, one_2]
    rw [rj_none hF]
    exact ⟨rfl, st.trans sg2⟩
  case ha =>
  intro hc
  have hc := of_decide_eq_true hc
  have next : rjB M a b c = false → ∀ i, i < c + 1 → rjB M a b i = false := fun h i hi => by
    rcases Nat.lt_or_ge i c with h7 | h7
    · exact hF i h7
    · have : i = c := by omega
      subst this; exact h
  repeat (first
    | ((first | apply Ops.op | apply Ops.op0 | apply Drs.bar | apply Drs.pure); case e => (intro k; simp (disch := omega) only [evs, Nat.reduceEqDiff, Nat.reduceLT, reduceIte, cond_true, cond_false, Nat.reduceAdd, f1, f2, f3, f8, hrow2.rdA]; rfl))
    | ((first | apply Ops.g1 | apply Drs.g1); case e => (simp (disch := omega) only [evs, Nat.reduceEqDiff, Nat.reduceLT, reduceIte, f1, f2, f3, f8, hrow2.rdA]))
    | ((first | apply Ops.g0t | apply Ops.g0f | apply Drs.g0t | apply Drs.g0f); case e => (simp (disch := omega) only [evs, Nat.reduceEqDiff, Nat.reduceLT, reduceIte, f1, f2, f3, f8, hrow2.rdA]))
    | ((first | apply Ops.g0u | apply Drs.g0u); case e => (simp (disch := omega) only [evs, Nat.reduceEqDiff, Nat.reduceLT, reduceIte, f1, f2, f3, f8, hrow2.rdA]))
    | apply Ok.seq
    | apply Ok.block
    | (apply Ok.ops (S := Sx))
    | (apply Ok.condT; case e => (simp (disch := omega) only [evs, Nat.reduceEqDiff, Nat.reduceLT, reduceIte, f1, f2, f3, f8, hrow2.rdA]))
    | (apply Ok.condF; case e => (simp (disch := omega) only [evs, Nat.reduceEqDiff, Nat.reduceLT, reduceIte, f1, f2, f3, f8, hrow2.rdA]))
    | ((first | apply Ops.nil | apply Drs.nil | apply Ok.skip | apply Ok.exit | apply Ok.ret); try simp only [Then_n, Then_e, Then_r, Out_n, Out_e, Out_r, Nat.reduceEqDiff, reduceIte])
    | (apply Ok.drs (S := Sx) hmix)
    )
  apply Ops.call
  case e => (simp (disch := omega) only [evs, Nat.reduceEqDiff, Nat.reduceLT, reduceIte, cond_true, cond_false, List.map_cons, List.map_nil, Nat.reduceAdd]; rfl)
  case hf => rw [hSx]; exact sr_rdom hM2 hs hrl c a
  case k =>
  intro y g3 hy
  rw [hSx] at hy
  obtain ⟨rfl, s3⟩ := hy _ _ rfl
  have sg3 := sg2.trans s3
  have hrow3 := hrow.grow sg3 hlt
  have hM3 := hM1.grow sg3
  cases hca : domB M (c : Int) a with
  | false =>
    repeat (first
      | ((first | apply Ops.op | apply Ops.op0 | apply Drs.bar | apply Drs.pure); case e => (intro k; simp (disch := omega) only [evs, Nat.reduceEqDiff, Nat.reduceLT, reduceIte, cond_true, cond_false, Nat.reduceAdd, f1, f2, f3, f8, hca]; rfl))
      | ((first | apply Ops.g1 | apply Drs.g1); case e => (simp (disch := omega) only [evs, Nat.reduceEqDiff, Nat.reduceLT, reduceIte, f1, f2, f3, f8, hca]))
      | ((first | apply Ops.g0t | apply Ops.g0f | apply Drs.g0t | apply Drs.g0f); case e => (simp (disch := omega) only [evs, Nat.reduceEqDiff, Nat.reduceLT, reduceIte, f1, f2, f3, f8, hca]))
      | ((first | apply Ops.g0u | apply Drs.g0u); case e => (simp (disch := omega) only [evs, Nat.reduceEqDiff, Nat.reduceLT, reduceIte, f1, f2, f3, f8, hca]))
      | apply Ok.seq
      | apply Ok.block
      | (apply Ok.ops (S := Sx))
      | (apply Ok.condT; case e => (simp (disch := omega) only [evs, Nat.reduceEqDiff, Nat.reduceLT, reduceIte, f1, f2, f3, f8, hca]))
      | (apply Ok.condF; case e => (simp (disch := omega) only [evs, Nat.reduceEqDiff, Nat.reduceLT, reduceIte, f1, f2, f3, f8, hca]))
      | ((first | apply Ops.nil | apply Drs.nil | apply Ok.skip | apply Ok.exit | apply Ok.ret); try simp only [Then_n, Then_e, Then_r, Out_n, Out_e, Out_r, Nat.reduceEqDiff, reduceIte])
      | (apply Ok.drs (S := Sx) hmix)
      )
    exact ⟨lvls M - (c + 1), by omega, c + 1, by omega, rfl, sg3, by simp (disch := omega) only [evs, Nat.reduceEqDiff, Nat.reduceLT, reduceIte, cond_true, cond_false, List.map_cons, List.map_nil, Nat.reduceAdd, f1], by simp (disch := omega) only [evs, Nat.reduceEqDiff, Nat.reduceLT, reduceIte, cond_true, cond_false, List.map_cons, List.map_nil, Nat.reduceAdd, f2], by simp (disch := omega) only [evs, Nat.reduceEqDiff, Nat.reduceLT, reduceIte, cond_true, cond_false, List.map_cons, List.map_nil, Nat.reduceAdd, f3], by simp (disch := omega) only [evs, Nat.reduceEqDiff, Nat.reduceLT, reduceIte, cond_true, cond_false, List.map_cons, List.map_nil, Nat.reduceAdd, f8, Int.natCast_add, Int.natCast_one], next (by unfold rjB; rw [hca]; rfl)⟩
  | true =>
  repeat (first
    | ((first | apply Ops.op | apply Ops.op0 | apply Drs.bar | apply Drs.pure); case e => (intro k; simp (disch := omega) only [evs, Nat.reduceEqDiff, Nat.reduceLT, reduceIte, cond_true, cond_false, Nat.reduceAdd, f1, f2, f3, f8, hca, hrow3.rdA]; rfl))
    | ((first | apply Ops.g1 | apply Drs.g1); case e => (simp (disch := omega) only [evs, Nat.reduceEqDiff, Nat.reduceLT, reduceIte, f1, f2, f3, f8, hca, hrow3.rdA]))
    | ((first | apply Ops.g0t | apply Ops.g0f | apply Drs.g0t | apply Drs.g0f); case e => (simp (disch := omega) only [evs, Nat.reduceEqDiff, Nat.reduceLT, reduceIte, f1, f2, f3, f8, hca, hrow3.rdA]))
    | ((first | apply Ops.g0u | apply Drs.g0u); case e => (simp (disch := omega) only [evs, Nat.reduceEqDiff, Nat.reduceLT, reduceIte, f1, f2, f3, f8, hca, hrow3.rdA]))
    | apply Ok.seq
    | apply Ok.block
    | (apply Ok.ops (S := Sx))
    | (apply Ok.condT; case e => (simp (disch := omega) only [evs, Nat.reduceEqDiff, Nat.reduceLT, reduceIte, f1, f2, f3, f8, hca, hrow3.rdA]))
    | (apply Ok.condF; case e => (simp (disch := omega) only [evs, Nat.reduceEqDiff, Nat.reduceLT, reduceIte, f1, f2, f3, f8, hca, hrow3.rdA]))
    | ((first | apply Ops.nil | apply Drs.nil | apply Ok.skip | apply Ok.exit | apply Ok.ret); try simp only [Then_n, Then_e, Then_r, Out_n, Out_e, Out_r, Nat.reduceEqDiff, reduceIte])
    | (apply Ok.drs (S := Sx) hmix)
    )
  apply Ops.call
  case e => (simp (disch := omega) only [evs, Nat.reduceEqDiff, Nat.reduceLT, reduceIte, cond_true, cond_false, List.map_cons, List.map_nil, Nat.reduceAdd]; rfl)
  case hf => rw [hSx]; exact sr_rdom hM3 hs hrl c b
  case k =>
  intro y g4 hy
  rw [hSx] at hy
  obtain ⟨rfl, s4⟩ := hy _ _ rfl
  have sg4 := sg3.trans s4
  have hrow4 := hrow.grow sg4 hlt
  have hM4 := hM1.grow sg4
  cases hcb : domB M (c : Int) b with
  | false =>
    repeat (first
      | ((first | apply Ops.op | apply Ops.op0 | apply Drs.bar | apply Drs.pure); case e => (intro k; simp (disch := omega) only [evs, Nat.reduceEqDiff, Nat.reduceLT, reduceIte, cond_true, cond_false, Nat.reduceAdd, f1, f2, f3, f8, hca, hcb]; rfl))
      | ((first | apply Ops.g1 | apply Drs.g1); case e => (simp (disch := omega) only [evs, Nat.reduceEqDiff, Nat.reduceLT, reduceIte, f1, f2, f3, f8, hca, hcb]))
      | ((first | apply Ops.g0t | apply Ops.g0f | apply Drs.g0t | apply Drs.g0f); case e => (simp (disch := omega) only [evs, Nat.reduceEqDiff, Nat.reduceLT, reduceIte, f1, f2, f3, f8, hca, hcb]))
      | ((first | apply Ops.g0u | apply Drs.g0u); case e => (simp (disch := omega) only [evs, Nat.reduceEqDiff, Nat.reduceLT, reduceIte, f1, f2, f3, f8, hca, hcb]))
      | apply Ok.seq
      | apply Ok.block
      | (apply Ok.ops (S := Sx))
      | (apply Ok.condT; case e => (simp (disch := omega) only [evs, Nat.reduceEqDiff, Nat.reduceLT, reduceIte, f1, f2, f3, f8, hca, hcb]))
      | (apply Ok.condF; case e => (simp (disch := omega) only [evs, Nat.reduceEqDiff, Nat.reduceLT, reduceIte, f1, f2, f3, f8, hca, hcb]))
      | ((first | apply Ops.nil | apply Drs.nil | apply Ok.skip | apply Ok.exit | apply Ok.ret); try simp only [Then_n, Then_e, Then_r, Out_n, Out_e, Out_r, Nat.reduceEqDiff, reduceIte])
      | (apply Ok.drs (S := Sx) hmix)
      )
    exact ⟨lvls M - (c + 1), by omega, c + 1, by omega, rfl, sg4, by simp (disch := omega) only [evs, Nat.reduceEqDiff, Nat.reduceLT, reduceIte, cond_true, cond_false, List.map_cons, List.map_nil, Nat.reduceAdd, f1], by simp (disch := omega) only [evs, Nat.reduceEqDiff, Nat.reduceLT, reduceIte, cond_true, cond_false, List.map_cons, List.map_nil, Nat.reduceAdd, f2], by simp (disch := omega) only [evs, Nat.reduceEqDiff, Nat.reduceLT, reduceIte, cond_true, cond_false, List.map_cons, List.map_nil, Nat.reduceAdd, f3], by simp (disch := omega) only [evs, Nat.reduceEqDiff, Nat.reduceLT, reduceIte, cond_true, cond_false, List.map_cons, List.map_nil, Nat.reduceAdd, f8, Int.natCast_add, Int.natCast_one], next (by unfold rjB; rw [hca, hcb]; rfl)⟩
  | true =>
  repeat (first
    | ((first | apply Ops.op | apply Ops.op0 | apply Drs.bar | apply Drs.pure); case e => (intro k; simp (disch := omega) only [evs, Nat.reduceEqDiff, Nat.reduceLT, reduceIte, cond_true, cond_false, Nat.reduceAdd, f1, f2, f3, f8, hca, hcb]; rfl))
    | ((first | apply Ops.g1 | apply Drs.g1); case e => (simp (disch := omega) only [evs, Nat.reduceEqDiff, Nat.reduceLT, reduceIte, f1, f2, f3, f8, hca, hcb]))
    | ((first | apply Ops.g0t | apply Ops.g0f | apply Drs.g0t | apply Drs.g0f); case e => (simp (disch := omega) only [evs, Nat.reduceEqDiff, Nat.reduceLT, reduceIte, f1, f2, f3, f8, hca, hcb]))
    | ((first | apply Ops.g0u | apply Drs.g0u); case e => (simp (disch := omega) only [evs, Nat.reduceEqDiff, Nat.reduceLT, reduceIte, f1, f2, f3, f8, hca, hcb]))
    | apply Ok.seq
    | apply Ok.block
    | (apply Ok.ops (S := Sx))
    | (apply Ok.condT; case e => (simp (disch := omega) only [evs, Nat.reduceEqDiff, Nat.reduceLT, reduceIte, f1, f2, f3, f8, hca, hcb]))
    | (apply Ok.condF; case e => (simp (disch := omega) only [evs, Nat.reduceEqDiff, Nat.reduceLT, reduceIte, f1, f2, f3, f8, hca, hcb]))
    | ((first | apply Ops.nil | apply Drs.nil | apply Ok.skip | apply Ok.exit | apply Ok.ret); try simp only [Then_n, Then_e, Then_r, Out_n, Out_e, Out_r, Nat.reduceEqDiff, reduceIte])
    | (apply Ok.drs (S := Sx) hmix)
    )
  refine Ok.loop (fun m t g => ∃ q : Nat, q ≤ lvls M ∧ m = lvls M - q ∧ Stay nowhere g4 g ∧ get 1 t = .i .i64 a ∧ get 2 t = .i .i64 b ∧ get 3 t = .p id 0 0 1 ∧ get 8 t = .i .i64 (c : Int) ∧ get 9 t = .b (lstR M a b c q) ∧ get 10 t = .i .i64 (q : Int)) ?_ (lvls M) _ _ ?_
  case refine_2 => exact ⟨0, Nat.zero_le _, rfl, Stay.refl _ _, by simp (disch := omega) only [evs, Nat.reduceEqDiff, Nat.reduceLT, reduceIte, cond_true, cond_false, List.map_cons, List.map_nil, Nat.reduceAdd, f1], by simp (disch := omega) only [evs, Nat.reduceEqDiff, Nat.reduceLT, reduceIte, cond_true, cond_false, List.map_cons, List.map_nil, Nat.reduceAdd, f2], by simp (disch := omega) only [evs, Nat.reduceEqDiff, Nat.reduceLT, reduceIte, cond_true, cond_false, List.map_cons, List.map_nil, Nat.reduceAdd, f3], by simp (disch := omega) only [evs, Nat.reduceEqDiff, Nat.reduceLT, reduceIte, cond_true, cond_false, List.map_cons, List.map_nil, Nat.reduceAdd, f8], by (simp (disch := omega) only [evs, Nat.reduceEqDiff, Nat.reduceLT, reduceIte, cond_true, cond_false, List.map_cons, List.map_nil, Nat.reduceAdd]) <;> rfl, by simp (disch := omega) only [evs, Nat.reduceEqDiff, Nat.reduceLT, reduceIte, cond_true, cond_false, List.map_cons, List.map_nil, Nat.reduceAdd]⟩
  clear f1 f2 f3 f8
  rintro m t g ⟨q, hq', rfl, sh, f1, f2, f3, f8, f9, f10⟩
  have sg5 := sg4.trans sh
  have hrow5 := hrow.grow sg5 hlt
  have hM5 := hM1.grow sg5
  unfold l14_1
  repeat (first
    | ((first | apply Ops.op | apply Ops.op0 | apply Drs.bar | apply Drs.pure); case e => (intro k; simp (disch := omega) only [evs, Nat.reduceEqDiff, Nat.reduceLT, reduceIte, cond_true, cond_false, Nat.reduceAdd, f1, f2, f3, f8, f9, f10, hrow5.rdA]; rfl))
    | ((first | apply Ops.g1 | apply Drs.g1); case e => (simp (disch := omega) only [evs, Nat.reduceEqDiff, Nat.reduceLT, reduceIte, f1, f2, f3, f8, f9, f10, hrow5.rdA]))
    | ((first | apply Ops.g0t | apply Ops.g0f | apply Drs.g0t | apply Drs.g0f); case e => (simp (disch := omega) only [evs, Nat.reduceEqDiff, Nat.reduceLT, reduceIte, f1, f2, f3, f8, f9, f10, hrow5.rdA]))
    | ((first | apply Ops.g0u | apply Drs.g0u); case e => (simp (disch := omega) only [evs, Nat.reduceEqDiff, Nat.reduceLT, reduceIte, f1, f2, f3, f8, f9, f10, hrow5.rdA]))
    | apply Ok.seq
    | apply Ok.block
    | (apply Ok.ops (S := Sx))
    | (apply Ok.condT; case e => (simp (disch := omega) only [evs, Nat.reduceEqDiff, Nat.reduceLT, reduceIte, f1, f2, f3, f8, f9, f10, hrow5.rdA]))
    | (apply Ok.condF; case e => (simp (disch := omega) only [evs, Nat.reduceEqDiff, Nat.reduceLT, reduceIte, f1, f2, f3, f8, f9, f10, hrow5.rdA]))
    | ((first | apply Ops.nil | apply Drs.nil | apply Ok.skip | apply Ok.exit | apply Ok.ret); try simp only [Then_n, Then_e, Then_r, Out_n, Out_e, Out_r, Nat.reduceEqDiff, reduceIte])
    | (apply Ok.drs (S := Sx) hmix)
    )
  apply Ops.call
  case e => (simp (disch := omega) only [evs, Nat.reduceEqDiff, Nat.reduceLT, reduceIte, cond_true, cond_false, List.map_cons, List.map_nil, Nat.reduceAdd]; rfl)
  case hf => rw [hSx]; exact sr_rlevels hM5 hs hrl
  case k =>
  intro y g6 hy
  rw [hSx] at hy
  obtain ⟨rfl, s6⟩ := hy
  have sh6 := sh.trans s6
  have sg6 := sg4.trans sh6
  have hrow6 := hrow.grow sg6 hlt
  have hM6 := hM1.grow sg6
  repeat (first
    | ((first | apply Ops.op | apply Ops.op0 | apply Drs.bar | apply Drs.pure); case e => (intro k; simp (disch := omega) only [evs, Nat.reduceEqDiff, Nat.reduceLT, reduceIte, cond_true, cond_false, Nat.reduceAdd, f1, f2, f3, f8, f9, f10]; rfl))
    | ((first | apply Ops.g1 | apply Drs.g1); case e => (simp (disch := omega) only [evs, Nat.reduceEqDiff, Nat.reduceLT, reduceIte, f1, f2, f3, f8, f9, f10]))
    | ((first | apply Ops.g0t | apply Ops.g0f | apply Drs.g0t | apply Drs.g0f); case e => (simp (disch := omega) only [evs, Nat.reduceEqDiff, Nat.reduceLT, reduceIte, f1, f2, f3, f8, f9, f10]))
    | ((first | apply Ops.g0u | apply Drs.g0u); case e => (simp (disch := omega) only [evs, Nat.reduceEqDiff, Nat.reduceLT, reduceIte, f1, f2, f3, f8, f9, f10]))
    | apply Ok.seq
    | apply Ok.block
    | (apply Ok.ops (S := Sx))
    | (apply Ok.condT; case e => (simp (disch := omega) only [evs, Nat.reduceEqDiff, Nat.reduceLT, reduceIte, f1, f2, f3, f8, f9, f10]))
    | (apply Ok.condF; case e => (simp (disch := omega) only [evs, Nat.reduceEqDiff, Nat.reduceLT, reduceIte, f1, f2, f3, f8, f9, f10]))
    | ((first | apply Ops.nil | apply Drs.nil | apply Ok.skip | apply Ok.exit | apply Ok.ret); try simp only [Then_n, Then_e, Then_r, Out_n, Out_e, Out_r, Nat.reduceEqDiff, reduceIte])
    | (apply Ok.drs (S := Sx) hmix)
    )
  apply Ok.cond
  case hq => (simp (disch := omega) only [evs, Nat.reduceEqDiff, Nat.reduceLT, reduceIte, cond_true, cond_false, List.map_cons, List.map_nil, Nat.reduceAdd, f10]; rfl)
  case hb =>
    intro hc2
    have hc2 := of_decide_eq_false hc2
    have : q = lvls M := by omega
    subst this
    cases hl : lstR M a b c (lvls M) with
    | true =>
      repeat (first
        | ((first | apply Ops.op | apply Ops.op0 | apply Drs.bar | apply Drs.pure); case e => (intro k; simp (disch := omega) only [evs, Nat.reduceEqDiff, Nat.reduceLT, reduceIte, cond_true, cond_false, Nat.reduceAdd, f8, f9, hl]; rfl))
        | ((first | apply Ops.g1 | apply Drs.g1); case e => (simp (disch := omega) only [evs, Nat.reduceEqDiff, Nat.reduceLT, reduceIte, f8, f9, hl]))
        | ((first | apply Ops.g0t | apply Ops.g0f | apply Drs.g0t | apply Drs.g0f); case e => (simp (disch := omega) only [evs, Nat.reduceEqDiff, Nat.reduceLT, reduceIte, f8, f9, hl]))
        | ((first | apply Ops.g0u | apply Drs.g0u); case e => (simp (disch := omega) only [evs, Nat.reduceEqDiff, Nat.reduceLT, reduceIte, f8, f9, hl]))
        | apply Ok.seq
        | apply Ok.block
        | (apply Ok.ops (S := Sx))
        | (apply Ok.condT; case e => (simp (disch := omega) only [evs, Nat.reduceEqDiff, Nat.reduceLT, reduceIte, f8, f9, hl]))
        | (apply Ok.condF; case e => (simp (disch := omega) only [evs, Nat.reduceEqDiff, Nat.reduceLT, reduceIte, f8, f9, hl]))
        | ((first | apply Ops.nil | apply Drs.nil | apply Ok.skip | apply Ok.exit | apply Ok.ret); try simp only [Then_n, Then_e, Then_r, Out_n, Out_e, Out_r, Nat.reduceEqDiff, reduceIte])
        | (apply Ok.drs (S := Sx) hmix)
        )
      refine ⟨_, fun k => res_2 _ _ _ _ k, ?_⟩
      simp (disch := omega) only [evs, Nat.reduceEqDiff, Nat.reduceLT, reduceIte, cond_true, cond_false, List.map_cons, List.map_nil, Nat.reduceAdd, one_2]
      rw [rj_some (by omega) hF (by unfold rjB; rw [hca, hcb, hl]; rfl)]
      exact ⟨rfl, st.trans sg6⟩
    | false =>
      repeat (first
        | ((first | apply Ops.op | apply Ops.op0 | apply Drs.bar | apply Drs.pure); case e => (intro k; simp (disch := omega) only [evs, Nat.reduceEqDiff, Nat.reduceLT, reduceIte, cond_true, cond_false, Nat.reduceAdd, f1, f2, f3, f8, f9, hl]; rfl))
        | ((first | apply Ops.g1 | apply Drs.g1); case e => (simp (disch := omega) only [evs, Nat.reduceEqDiff, Nat.reduceLT, reduceIte, f1, f2, f3, f8, f9, hl]))
        | ((first | apply Ops.g0t | apply Ops.g0f | apply Drs.g0t | apply Drs.g0f); case e => (simp (disch := omega) only [evs, Nat.reduceEqDiff, Nat.reduceLT, reduceIte, f1, f2, f3, f8, f9, hl]))
        | ((first | apply Ops.g0u | apply Drs.g0u); case e => (simp (disch := omega) only [evs, Nat.reduceEqDiff, Nat.reduceLT, reduceIte, f1, f2, f3, f8, f9, hl]))
        | apply Ok.seq
        | apply Ok.block
        | (apply Ok.ops (S := Sx))
        | (apply Ok.condT; case e => (simp (disch := omega) only [evs, Nat.reduceEqDiff, Nat.reduceLT, reduceIte, f1, f2, f3, f8, f9, hl]))
        | (apply Ok.condF; case e => (simp (disch := omega) only [evs, Nat.reduceEqDiff, Nat.reduceLT, reduceIte, f1, f2, f3, f8, f9, hl]))
        | ((first | apply Ops.nil | apply Drs.nil | apply Ok.skip | apply Ok.exit | apply Ok.ret); try simp only [Then_n, Then_e, Then_r, Out_n, Out_e, Out_r, Nat.reduceEqDiff, reduceIte])
        | (apply Ok.drs (S := Sx) hmix)
        )
      exact ⟨lvls M - (c + 1), by omega, c + 1, by omega, rfl, sg6, by simp (disch := omega) only [evs, Nat.reduceEqDiff, Nat.reduceLT, reduceIte, cond_true, cond_false, List.map_cons, List.map_nil, Nat.reduceAdd, f1], by simp (disch := omega) only [evs, Nat.reduceEqDiff, Nat.reduceLT, reduceIte, cond_true, cond_false, List.map_cons, List.map_nil, Nat.reduceAdd, f2], by simp (disch := omega) only [evs, Nat.reduceEqDiff, Nat.reduceLT, reduceIte, cond_true, cond_false, List.map_cons, List.map_nil, Nat.reduceAdd, f3], by simp (disch := omega) only [evs, Nat.reduceEqDiff, Nat.reduceLT, reduceIte, cond_true, cond_false, List.map_cons, List.map_nil, Nat.reduceAdd, f8, Int.natCast_add, Int.natCast_one], next (by unfold rjB; rw [hca, hcb, hl]; rfl)⟩
  case ha =>
  intro hc2
  have hc2 := of_decide_eq_true hc2
  cases hl : lstR M a b c q with
  | false =>
    repeat (first
      | ((first | apply Ops.op | apply Ops.op0 | apply Drs.bar | apply Drs.pure); case e => (intro k; simp (disch := omega) only [evs, Nat.reduceEqDiff, Nat.reduceLT, reduceIte, cond_true, cond_false, Nat.reduceAdd, f1, f2, f3, f8, f9, f10, hl]; rfl))
      | ((first | apply Ops.g1 | apply Drs.g1); case e => (simp (disch := omega) only [evs, Nat.reduceEqDiff, Nat.reduceLT, reduceIte, f1, f2, f3, f8, f9, f10, hl]))
      | ((first | apply Ops.g0t | apply Ops.g0f | apply Drs.g0t | apply Drs.g0f); case e => (simp (disch := omega) only [evs, Nat.reduceEqDiff, Nat.reduceLT, reduceIte, f1, f2, f3, f8, f9, f10, hl]))
      | ((first | apply Ops.g0u | apply Drs.g0u); case e => (simp (disch := omega) only [evs, Nat.reduceEqDiff, Nat.reduceLT, reduceIte, f1, f2, f3, f8, f9, f10, hl]))
      | apply Ok.seq
      | apply Ok.block
      | (apply Ok.ops (S := Sx))
      | (apply Ok.condT; case e => (simp (disch := omega) only [evs, Nat.reduceEqDiff, Nat.reduceLT, reduceIte, f1, f2, f3, f8, f9, f10, hl]))
      | (apply Ok.condF; case e => (simp (disch := omega) only [evs, Nat.reduceEqDiff, Nat.reduceLT, reduceIte, f1, f2, f3, f8, f9, f10, hl]))
      | ((first | apply Ops.nil | apply Drs.nil | apply Ok.skip | apply Ok.exit | apply Ok.ret); try simp only [Then_n, Then_e, Then_r, Out_n, Out_e, Out_r, Nat.reduceEqDiff, reduceIte])
      | (apply Ok.drs (S := Sx) hmix)
      )
    exact ⟨lvls M - (q + 1), by omega, q + 1, by omega, rfl, sh6, by simp (disch := omega) only [evs, Nat.reduceEqDiff, Nat.reduceLT, reduceIte, cond_true, cond_false, List.map_cons, List.map_nil, Nat.reduceAdd, f1], by simp (disch := omega) only [evs, Nat.reduceEqDiff, Nat.reduceLT, reduceIte, cond_true, cond_false, List.map_cons, List.map_nil, Nat.reduceAdd, f2], by simp (disch := omega) only [evs, Nat.reduceEqDiff, Nat.reduceLT, reduceIte, cond_true, cond_false, List.map_cons, List.map_nil, Nat.reduceAdd, f3], by simp (disch := omega) only [evs, Nat.reduceEqDiff, Nat.reduceLT, reduceIte, cond_true, cond_false, List.map_cons, List.map_nil, Nat.reduceAdd, f8], by simp (disch := omega) only [evs, Nat.reduceEqDiff, Nat.reduceLT, reduceIte, cond_true, cond_false, List.map_cons, List.map_nil, Nat.reduceAdd, lstR_succ, hl, Bool.false_and], by simp (disch := omega) only [evs, Nat.reduceEqDiff, Nat.reduceLT, reduceIte, cond_true, cond_false, List.map_cons, List.map_nil, Nat.reduceAdd, f10, Int.natCast_add, Int.natCast_one]⟩
  | true =>
  repeat (first
    | ((first | apply Ops.op | apply Ops.op0 | apply Drs.bar | apply Drs.pure); case e => (intro k; simp (disch := omega) only [evs, Nat.reduceEqDiff, Nat.reduceLT, reduceIte, cond_true, cond_false, Nat.reduceAdd, f1, f2, f3, f8, f9, f10, hl, hrow6.rdA]; rfl))
    | ((first | apply Ops.g1 | apply Drs.g1); case e => (simp (disch := omega) only [evs, Nat.reduceEqDiff, Nat.reduceLT, reduceIte, f1, f2, f3, f8, f9, f10, hl, hrow6.rdA]))
    | ((first | apply Ops.g0t | apply Ops.g0f | apply Drs.g0t | apply Drs.g0f); case e => (simp (disch := omega) only [evs, Nat.reduceEqDiff, Nat.reduceLT, reduceIte, f1, f2, f3, f8, f9, f10, hl, hrow6.rdA]))
    | ((first | apply Ops.g0u | apply Drs.g0u); case e => (simp (disch := omega) only [evs, Nat.reduceEqDiff, Nat.reduceLT, reduceIte, f1, f2, f3, f8, f9, f10, hl, hrow6.rdA]))
    | apply Ok.seq
    | apply Ok.block
    | (apply Ok.ops (S := Sx))
    | (apply Ok.condT; case e => (simp (disch := omega) only [evs, Nat.reduceEqDiff, Nat.reduceLT, reduceIte, f1, f2, f3, f8, f9, f10, hl, hrow6.rdA]))
    | (apply Ok.condF; case e => (simp (disch := omega) only [evs, Nat.reduceEqDiff, Nat.reduceLT, reduceIte, f1, f2, f3, f8, f9, f10, hl, hrow6.rdA]))
    | ((first | apply Ops.nil | apply Drs.nil | apply Ok.skip | apply Ok.exit | apply Ok.ret); try simp only [Then_n, Then_e, Then_r, Out_n, Out_e, Out_r, Nat.reduceEqDiff, reduceIte])
    | (apply Ok.drs (S := Sx) hmix)
    )
  apply Ops.call
  case e => (simp (disch := omega) only [evs, Nat.reduceEqDiff, Nat.reduceLT, reduceIte, cond_true, cond_false, List.map_cons, List.map_nil, Nat.reduceAdd]; rfl)
  case hf => rw [hSx]; exact sr_rdom hM6 hs hrl q a
  case k =>
  intro y g7 hy
  rw [hSx] at hy
  obtain ⟨rfl, s7⟩ := hy _ _ rfl
  have sh7 := sh6.trans s7
  have sg7 := sg4.trans sh7
  have hrow7 := hrow.grow sg7 hlt
  have hM7 := hM1.grow sg7
  cases hqa : domB M (q : Int) a with
  | false =>
    repeat (first
      | ((first | apply Ops.op | apply Ops.op0 | apply Drs.bar | apply Drs.pure); case e => (intro k; simp (disch := omega) only [evs, Nat.reduceEqDiff, Nat.reduceLT, reduceIte, cond_true, cond_false, Nat.reduceAdd, f1, f2, f3, f8, f9, f10, hl, hqa]; rfl))
      | ((first | apply Ops.g1 | apply Drs.g1); case e => (simp (disch := omega) only [evs, Nat.reduceEqDiff, Nat.reduceLT, reduceIte, f1, f2, f3, f8, f9, f10, hl, hqa]))
      | ((first | apply Ops.g0t | apply Ops.g0f | apply Drs.g0t | apply Drs.g0f); case e => (simp (disch := omega) only [evs, Nat.reduceEqDiff, Nat.reduceLT, reduceIte, f1, f2, f3, f8, f9, f10, hl, hqa]))
      | ((first | apply Ops.g0u | apply Drs.g0u); case e => (simp (disch := omega) only [evs, Nat.reduceEqDiff, Nat.reduceLT, reduceIte, f1, f2, f3, f8, f9, f10, hl, hqa]))
      | apply Ok.seq
      | apply Ok.block
      | (apply Ok.ops (S := Sx))
      | (apply Ok.condT; case e => (simp (disch := omega) only [evs, Nat.reduceEqDiff, Nat.reduceLT, reduceIte, f1, f2, f3, f8, f9, f10, hl, hqa]))
      | (apply Ok.condF; case e => (simp (disch := omega) only [evs, Nat.reduceEqDiff, Nat.reduceLT, reduceIte, f1, f2, f3, f8, f9, f10, hl, hqa]))
      | ((first | apply Ops.nil | apply Drs.nil | apply Ok.skip | apply Ok.exit | apply Ok.ret); try simp only [Then_n, Then_e, Then_r, Out_n, Out_e, Out_r, Nat.reduceEqDiff, reduceIte])
      | (apply Ok.drs (S := Sx) hmix)
      )
    exact ⟨lvls M - (q + 1), by omega, q + 1, by omega, rfl, sh7, by simp (disch := omega) only [evs, Nat.reduceEqDiff, Nat.reduceLT, reduceIte, cond_true, cond_false, List.map_cons, List.map_nil, Nat.reduceAdd, f1], by simp (disch := omega) only [evs, Nat.reduceEqDiff, Nat.reduceLT, reduceIte, cond_true, cond_false, List.map_cons, List.map_nil, Nat.reduceAdd, f2], by simp (disch := omega) only [evs, Nat.reduceEqDiff, Nat.reduceLT, reduceIte, cond_true, cond_false, List.map_cons, List.map_nil, Nat.reduceAdd, f3], by simp (disch := omega) only [evs, Nat.reduceEqDiff, Nat.reduceLT, reduceIte, cond_true, cond_false, List.map_cons, List.map_nil, Nat.reduceAdd, f8], by simp (disch := omega) only [evs, Nat.reduceEqDiff, Nat.reduceLT, reduceIte, cond_true, cond_false, List.map_cons, List.map_nil, Nat.reduceAdd, lstR_succ, hl, hqa, Bool.true_and, Bool.true_or], by simp (disch := omega) only [evs, Nat.reduceEqDiff, Nat.reduceLT, reduceIte, cond_true, cond_false, List.map_cons, List.map_nil, Nat.reduceAdd, f10, Int.natCast_add, Int.natCast_one]⟩
  | true =>
  repeat (first
    | ((first | apply Ops.op | apply Ops.op0 | apply Drs.bar | apply Drs.pure); case e => (intro k; simp (disch := omega) only [evs, Nat.reduceEqDiff, Nat.reduceLT, reduceIte, cond_true, cond_false, Nat.reduceAdd, f1, f2, f3, f8, f9, f10, hl, hqa, hrow7.rdA]; rfl))
    | ((first | apply Ops.g1 | apply Drs.g1); case e => (simp (disch := omega) only [evs, Nat.reduceEqDiff, Nat.reduceLT, reduceIte, f1, f2, f3, f8, f9, f10, hl, hqa, hrow7.rdA]))
    | ((first | apply Ops.g0t | apply Ops.g0f | apply Drs.g0t | apply Drs.g0f); case e => (simp (disch := omega) only [evs, Nat.reduceEqDiff, Nat.reduceLT, reduceIte, f1, f2, f3, f8, f9, f10, hl, hqa, hrow7.rdA]))
    | ((first | apply Ops.g0u | apply Drs.g0u); case e => (simp (disch := omega) only [evs, Nat.reduceEqDiff, Nat.reduceLT, reduceIte, f1, f2, f3, f8, f9, f10, hl, hqa, hrow7.rdA]))
    | apply Ok.seq
    | apply Ok.block
    | (apply Ok.ops (S := Sx))
    | (apply Ok.condT; case e => (simp (disch := omega) only [evs, Nat.reduceEqDiff, Nat.reduceLT, reduceIte, f1, f2, f3, f8, f9, f10, hl, hqa, hrow7.rdA]))
    | (apply Ok.condF; case e => (simp (disch := omega) only [evs, Nat.reduceEqDiff, Nat.reduceLT, reduceIte, f1, f2, f3, f8, f9, f10, hl, hqa, hrow7.rdA]))
    | ((first | apply Ops.nil | apply Drs.nil | apply Ok.skip | apply Ok.exit | apply Ok.ret); try simp only [Then_n, Then_e, Then_r, Out_n, Out_e, Out_r, Nat.reduceEqDiff, reduceIte])
    | (apply Ok.drs (S := Sx) hmix)
    )
  apply Ops.call
  case e => (simp (disch := omega) only [evs, Nat.reduceEqDiff, Nat.reduceLT, reduceIte, cond_true, cond_false, List.map_cons, List.map_nil, Nat.reduceAdd]; rfl)
  case hf => rw [hSx]; exact sr_rdom hM7 hs hrl q b
  case k =>
  intro y g8 hy
  rw [hSx] at hy
  obtain ⟨rfl, s8⟩ := hy _ _ rfl
  have sh8 := sh7.trans s8
  have sg8 := sg4.trans sh8
  have hrow8 := hrow.grow sg8 hlt
  have hM8 := hM1.grow sg8
  cases hqb : domB M (q : Int) b with
  | false =>
    repeat (first
      | ((first | apply Ops.op | apply Ops.op0 | apply Drs.bar | apply Drs.pure); case e => (intro k; simp (disch := omega) only [evs, Nat.reduceEqDiff, Nat.reduceLT, reduceIte, cond_true, cond_false, Nat.reduceAdd, f1, f2, f3, f8, f9, f10, hl, hqa, hqb]; rfl))
      | ((first | apply Ops.g1 | apply Drs.g1); case e => (simp (disch := omega) only [evs, Nat.reduceEqDiff, Nat.reduceLT, reduceIte, f1, f2, f3, f8, f9, f10, hl, hqa, hqb]))
      | ((first | apply Ops.g0t | apply Ops.g0f | apply Drs.g0t | apply Drs.g0f); case e => (simp (disch := omega) only [evs, Nat.reduceEqDiff, Nat.reduceLT, reduceIte, f1, f2, f3, f8, f9, f10, hl, hqa, hqb]))
      | ((first | apply Ops.g0u | apply Drs.g0u); case e => (simp (disch := omega) only [evs, Nat.reduceEqDiff, Nat.reduceLT, reduceIte, f1, f2, f3, f8, f9, f10, hl, hqa, hqb]))
      | apply Ok.seq
      | apply Ok.block
      | (apply Ok.ops (S := Sx))
      | (apply Ok.condT; case e => (simp (disch := omega) only [evs, Nat.reduceEqDiff, Nat.reduceLT, reduceIte, f1, f2, f3, f8, f9, f10, hl, hqa, hqb]))
      | (apply Ok.condF; case e => (simp (disch := omega) only [evs, Nat.reduceEqDiff, Nat.reduceLT, reduceIte, f1, f2, f3, f8, f9, f10, hl, hqa, hqb]))
      | ((first | apply Ops.nil | apply Drs.nil | apply Ok.skip | apply Ok.exit | apply Ok.ret); try simp only [Then_n, Then_e, Then_r, Out_n, Out_e, Out_r, Nat.reduceEqDiff, reduceIte])
      | (apply Ok.drs (S := Sx) hmix)
      )
    exact ⟨lvls M - (q + 1), by omega, q + 1, by omega, rfl, sh8, by simp (disch := omega) only [evs, Nat.reduceEqDiff, Nat.reduceLT, reduceIte, cond_true, cond_false, List.map_cons, List.map_nil, Nat.reduceAdd, f1], by simp (disch := omega) only [evs, Nat.reduceEqDiff, Nat.reduceLT, reduceIte, cond_true, cond_false, List.map_cons, List.map_nil, Nat.reduceAdd, f2], by simp (disch := omega) only [evs, Nat.reduceEqDiff, Nat.reduceLT, reduceIte, cond_true, cond_false, List.map_cons, List.map_nil, Nat.reduceAdd, f3], by simp (disch := omega) only [evs, Nat.reduceEqDiff, Nat.reduceLT, reduceIte, cond_true, cond_false, List.map_cons, List.map_nil, Nat.reduceAdd, f8], by simp (disch := omega) only [evs, Nat.reduceEqDiff, Nat.reduceLT, reduceIte, cond_true, cond_false, List.map_cons, List.map_nil, Nat.reduceAdd, lstR_succ, hl, hqa, hqb, Bool.true_and, Bool.true_or, Bool.false_or], by simp (disch := omega) only [evs, Nat.reduceEqDiff, Nat.reduceLT, reduceIte, cond_true, cond_false, List.map_cons, List.map_nil, Nat.reduceAdd, f10, Int.natCast_add, Int.natCast_one]⟩
  | true =>
  repeat (first
    | ((first | apply Ops.op | apply Ops.op0 | apply Drs.bar | apply Drs.pure); case e => (intro k; simp (disch := omega) only [evs, Nat.reduceEqDiff, Nat.reduceLT, reduceIte, cond_true, cond_false, Nat.reduceAdd, f1, f2, f3, f8, f9, f10, hl, hqa, hqb, hrow8.rdA]; rfl))
    | ((first | apply Ops.g1 | apply Drs.g1); case e => (simp (disch := omega) only [evs, Nat.reduceEqDiff, Nat.reduceLT, reduceIte, f1, f2, f3, f8, f9, f10, hl, hqa, hqb, hrow8.rdA]))
    | ((first | apply Ops.g0t | apply Ops.g0f | apply Drs.g0t | apply Drs.g0f); case e => (simp (disch := omega) only [evs, Nat.reduceEqDiff, Nat.reduceLT, reduceIte, f1, f2, f3, f8, f9, f10, hl, hqa, hqb, hrow8.rdA]))
    | ((first | apply Ops.g0u | apply Drs.g0u); case e => (simp (disch := omega) only [evs, Nat.reduceEqDiff, Nat.reduceLT, reduceIte, f1, f2, f3, f8, f9, f10, hl, hqa, hqb, hrow8.rdA]))
    | apply Ok.seq
    | apply Ok.block
    | (apply Ok.ops (S := Sx))
    | (apply Ok.condT; case e => (simp (disch := omega) only [evs, Nat.reduceEqDiff, Nat.reduceLT, reduceIte, f1, f2, f3, f8, f9, f10, hl, hqa, hqb, hrow8.rdA]))
    | (apply Ok.condF; case e => (simp (disch := omega) only [evs, Nat.reduceEqDiff, Nat.reduceLT, reduceIte, f1, f2, f3, f8, f9, f10, hl, hqa, hqb, hrow8.rdA]))
    | ((first | apply Ops.nil | apply Drs.nil | apply Ok.skip | apply Ok.exit | apply Ok.ret); try simp only [Then_n, Then_e, Then_r, Out_n, Out_e, Out_r, Nat.reduceEqDiff, reduceIte])
    | (apply Ok.drs (S := Sx) hmix)
    )
  apply Ops.call
  case e => (simp (disch := omega) only [evs, Nat.reduceEqDiff, Nat.reduceLT, reduceIte, cond_true, cond_false, List.map_cons, List.map_nil, Nat.reduceAdd]; rfl)
  case hf => rw [hSx]; exact sr_rdom hM8 hs hrl q c
  case k =>
  intro y g9 hy
  rw [hSx] at hy
  obtain ⟨rfl, s9⟩ := hy _ _ rfl
  have sh9 := sh8.trans s9
  repeat (first
    | ((first | apply Ops.op | apply Ops.op0 | apply Drs.bar | apply Drs.pure); case e => (intro k; simp (disch := omega) only [evs, Nat.reduceEqDiff, Nat.reduceLT, reduceIte, cond_true, cond_false, Nat.reduceAdd, f1, f2, f3, f8, f9, f10, hl, hqa, hqb]; rfl))
    | ((first | apply Ops.g1 | apply Drs.g1); case e => (simp (disch := omega) only [evs, Nat.reduceEqDiff, Nat.reduceLT, reduceIte, f1, f2, f3, f8, f9, f10, hl, hqa, hqb]))
    | ((first | apply Ops.g0t | apply Ops.g0f | apply Drs.g0t | apply Drs.g0f); case e => (simp (disch := omega) only [evs, Nat.reduceEqDiff, Nat.reduceLT, reduceIte, f1, f2, f3, f8, f9, f10, hl, hqa, hqb]))
    | ((first | apply Ops.g0u | apply Drs.g0u); case e => (simp (disch := omega) only [evs, Nat.reduceEqDiff, Nat.reduceLT, reduceIte, f1, f2, f3, f8, f9, f10, hl, hqa, hqb]))
    | apply Ok.seq
    | apply Ok.block
    | (apply Ok.ops (S := Sx))
    | (apply Ok.condT; case e => (simp (disch := omega) only [evs, Nat.reduceEqDiff, Nat.reduceLT, reduceIte, f1, f2, f3, f8, f9, f10, hl, hqa, hqb]))
    | (apply Ok.condF; case e => (simp (disch := omega) only [evs, Nat.reduceEqDiff, Nat.reduceLT, reduceIte, f1, f2, f3, f8, f9, f10, hl, hqa, hqb]))
    | ((first | apply Ops.nil | apply Drs.nil | apply Ok.skip | apply Ok.exit | apply Ok.ret); try simp only [Then_n, Then_e, Then_r, Out_n, Out_e, Out_r, Nat.reduceEqDiff, reduceIte])
    | (apply Ok.drs (S := Sx) hmix)
    )
  exact ⟨lvls M - (q + 1), by omega, q + 1, by omega, rfl, sh9, by simp (disch := omega) only [evs, Nat.reduceEqDiff, Nat.reduceLT, reduceIte, cond_true, cond_false, List.map_cons, List.map_nil, Nat.reduceAdd, f1], by simp (disch := omega) only [evs, Nat.reduceEqDiff, Nat.reduceLT, reduceIte, cond_true, cond_false, List.map_cons, List.map_nil, Nat.reduceAdd, f2], by simp (disch := omega) only [evs, Nat.reduceEqDiff, Nat.reduceLT, reduceIte, cond_true, cond_false, List.map_cons, List.map_nil, Nat.reduceAdd, f3], by simp (disch := omega) only [evs, Nat.reduceEqDiff, Nat.reduceLT, reduceIte, cond_true, cond_false, List.map_cons, List.map_nil, Nat.reduceAdd, f8], by simp (disch := omega) only [evs, Nat.reduceEqDiff, Nat.reduceLT, reduceIte, cond_true, cond_false, List.map_cons, List.map_nil, Nat.reduceAdd, lstR_succ, hl, hqa, hqb, Bool.true_and, Bool.false_or], by simp (disch := omega) only [evs, Nat.reduceEqDiff, Nat.reduceLT, reduceIte, cond_true, cond_false, List.map_cons, List.map_nil, Nat.reduceAdd, f10, Int.natCast_add, Int.natCast_one]⟩
theorem sr_rjoin (hM : Mx h v M) (hs : M.length ≤ 1000000) (hrl : ∀ i, i < M.length → (M.getD i []).length ≤ 1000000) (a b : Int) : FnOk Try.prog 14 [.a [v], .i .i64 a, .i .i64 b] h (SR v M 14 [.a [v], .i .i64 a, .i .i64 b] h) :=
  (rjoin_ok hM hs hrl a b).mono fun y h' hk a' b' e => by cases e; exact hk
end
end Go.Proofs.Ytpnflehemjbemaa
