/- The document's Covers, Order of a lattice, by what they compute. No condition. -/
import Derived.Test.YtpnflehemjbemaaLat17
set_option maxRecDepth 100000
set_option maxHeartbeats 8000000
set_option linter.all false
namespace Go.Proofs.Ytpnflehemjbemaa
open Go Go.Ev

theorem above_top {M : Mt} {b c : Nat} (hb : b < M.length) (hc : c < M.length) (h0 : 0 < lvls M) : (!aboveB M (c : Int) (b : Int)) = (decide ((c : Int) = (b : Int)) || !at2 M (c : Int).toNat (b : Int).toNat) := by
  obtain ⟨q1, q2, q3, q4⟩ := lvls_rows (M := M) (a := 0) h0
  have l1 : isLv M (c : Int) = true := decide_eq_true ⟨by omega, by omega⟩
  have l2 : isLv M (b : Int) = true := decide_eq_true ⟨by omega, by omega⟩
  unfold aboveB domB
  rw [l1, l2, Int.toNat_natCast, Int.toNat_natCast]
  cases decide ((c : Int) = (b : Int)) <;> cases at2 M c b <;> rfl

theorem rcovers_ok {h : H} {v : V} {M : Mt} (hM : Mx h v M) (hs : M.length ≤ 1000000) (hrl : ∀ i, i < M.length → (M.getD i []).length ≤ 1000000) (hf : B.val h.floor ≤ B.val h.next) (a : Int) : FnOk Try.prog 27 [.a [v], .i .i64 a] h fun y h' => Ib h' (B.val h.next) 3 y (coversL M a) ∧ Stay nowhere h h' := by
  have hmix := Checked.mixed Try.checked
  refine fn_run c27 (by intro hb; cases hb) (by simp) (by simp) ?_
  simp only [slotsF, Nat.reduceAdd]
  unfold b27
  obtain ⟨Sx, hSx⟩ : ∃ S, S = SR v M := ⟨_, rfl⟩
  repeat (first
    | ((first | apply Ops.op | apply Ops.op0 | apply Drs.bar | apply Drs.pure); case e => (intro k; simp (disch := omega) only [evs, Nat.reduceEqDiff, Nat.reduceLT, reduceIte, cond_true, cond_false, Nat.reduceAdd]; rfl))
    | ((first | apply Ops.g1 | apply Drs.g1); case e => (simp (disch := omega) only [evs, Nat.reduceEqDiff, Nat.reduceLT, reduceIte]))
    | ((first | apply Ops.g0t | apply Ops.g0f | apply Drs.g0t | apply Drs.g0f); case e => (simp (disch := omega) only [evs, Nat.reduceEqDiff, Nat.reduceLT, reduceIte]))
    | ((first | apply Ops.g0u | apply Drs.g0u); case e => (simp (disch := omega) only [evs, Nat.reduceEqDiff, Nat.reduceLT, reduceIte]))
    | apply Ok.seq
    | apply Ok.block
    | (apply Ok.ops (S := Sp))
    | (apply Ok.condT; case e => (simp (disch := omega) only [evs, Nat.reduceEqDiff, Nat.reduceLT, reduceIte]))
    | (apply Ok.condF; case e => (simp (disch := omega) only [evs, Nat.reduceEqDiff, Nat.reduceLT, reduceIte]))
    | ((first | apply Ops.nil | apply Drs.nil | apply Ok.skip | apply Ok.exit | apply Ok.ret); try simp only [Then_n, Then_e, Then_r, Out_n, Out_e, Out_r, Nat.reduceEqDiff, reduceIte])
    | (apply Ok.drs (S := Sp) hmix)
    )
  apply Ops.box1
  case e => (simp (disch := omega) only [evs, Nat.reduceEqDiff, Nat.reduceLT, reduceIte, cond_true, cond_false, List.map_cons, List.map_nil, Nat.reduceAdd]; rfl)
  case k =>
  intro h1 id s1 hlt hge hrow
  have hM1 := hM.grow s1
  repeat (first
    | ((first | apply Ops.op | apply Ops.op0 | apply Drs.bar | apply Drs.pure); case e => (intro k; simp (disch := omega) only [evs, Nat.reduceEqDiff, Nat.reduceLT, reduceIte, cond_true, cond_false, Nat.reduceAdd, hrow.rdA]; rfl))
    | ((first | apply Ops.g1 | apply Drs.g1); case e => (simp (disch := omega) only [evs, Nat.reduceEqDiff, Nat.reduceLT, reduceIte, hrow.rdA]))
    | ((first | apply Ops.g0t | apply Ops.g0f | apply Drs.g0t | apply Drs.g0f); case e => (simp (disch := omega) only [evs, Nat.reduceEqDiff, Nat.reduceLT, reduceIte, hrow.rdA]))
    | ((first | apply Ops.g0u | apply Drs.g0u); case e => (simp (disch := omega) only [evs, Nat.reduceEqDiff, Nat.reduceLT, reduceIte, hrow.rdA]))
    | apply Ok.seq
    | apply Ok.block
    | (apply Ok.ops (S := Sx))
    | (apply Ok.condT; case e => (simp (disch := omega) only [evs, Nat.reduceEqDiff, Nat.reduceLT, reduceIte, hrow.rdA]))
    | (apply Ok.condF; case e => (simp (disch := omega) only [evs, Nat.reduceEqDiff, Nat.reduceLT, reduceIte, hrow.rdA]))
    | ((first | apply Ops.nil | apply Drs.nil | apply Ok.skip | apply Ok.exit | apply Ok.ret); try simp only [Then_n, Then_e, Then_r, Out_n, Out_e, Out_r, Nat.reduceEqDiff, reduceIte])
    | (apply Ok.drs (S := Sx) hmix)
    )
  apply Ops.call
  case e => (simp (disch := omega) only [evs, Nat.reduceEqDiff, Nat.reduceLT, reduceIte, cond_true, cond_false, List.map_cons, List.map_nil, Nat.reduceAdd]; rfl)
  case hf => rw [hSx]; exact sr_rbelow hM1 hs hrl (s1.fl hf) a
  case k =>
  intro y h2 hy
  rw [hSx] at hy
  obtain ⟨hb2, s2⟩ := hy _ rfl
  have st := s1.trans s2
  have hrow2 := hrow.grow s2 hlt
  have hlt2 := Nat.lt_of_lt_of_le hlt s2.next
  have hM2 := hM1.grow s2
  have hL2 := hb2.il
  have hLl := belowL_len M a
  have hmem := fun (i : Nat) (hi : i < (belowL M a).length) => belowL_mem hi
  unfold coversL
  generalize belowL M a = L at hb2 hL2 hLl hmem ⊢
  repeat (first
    | ((first | apply Ops.op | apply Ops.op0 | apply Drs.bar | apply Drs.pure); case e => (intro k; simp (disch := omega) only [evs, Nat.reduceEqDiff, Nat.reduceLT, reduceIte, cond_true, cond_false, Nat.reduceAdd]; rfl))
    | ((first | apply Ops.g1 | apply Drs.g1); case e => (simp (disch := omega) only [evs, Nat.reduceEqDiff, Nat.reduceLT, reduceIte]))
    | ((first | apply Ops.g0t | apply Ops.g0f | apply Drs.g0t | apply Drs.g0f); case e => (simp (disch := omega) only [evs, Nat.reduceEqDiff, Nat.reduceLT, reduceIte]))
    | ((first | apply Ops.g0u | apply Drs.g0u); case e => (simp (disch := omega) only [evs, Nat.reduceEqDiff, Nat.reduceLT, reduceIte]))
    | apply Ok.seq
    | apply Ok.block
    | (apply Ok.ops (S := Sx))
    | (apply Ok.condT; case e => (simp (disch := omega) only [evs, Nat.reduceEqDiff, Nat.reduceLT, reduceIte]))
    | (apply Ok.condF; case e => (simp (disch := omega) only [evs, Nat.reduceEqDiff, Nat.reduceLT, reduceIte]))
    | ((first | apply Ops.nil | apply Drs.nil | apply Ok.skip | apply Ok.exit | apply Ok.ret); try simp only [Then_n, Then_e, Then_r, Out_n, Out_e, Out_r, Nat.reduceEqDiff, reduceIte])
    | (apply Ok.drs (S := Sx) hmix)
    )
  refine Ok.loop (fun m t g => ∃ (r : Nat) (w : V), r ≤ L.length ∧ m = L.length - r ∧ Stay nowhere h2 g ∧ get 2 t = .p id 0 0 1 ∧ get 5 t = y ∧ get 6 t = w ∧ get 7 t = .i .i64 (r : Int) ∧ Ib g (B.val h2.next) 3 w (covers0 M L r)) ?_ L.length _ _ ?_
  case refine_2 => exact ⟨0, .l0, Nat.zero_le _, rfl, Stay.refl _ _, by simp (disch := omega) only [evs, Nat.reduceEqDiff, Nat.reduceLT, reduceIte, cond_true, cond_false, List.map_cons, List.map_nil, Nat.reduceAdd], by simp (disch := omega) only [evs, Nat.reduceEqDiff, Nat.reduceLT, reduceIte, cond_true, cond_false, List.map_cons, List.map_nil, Nat.reduceAdd], by simp (disch := omega) only [evs, Nat.reduceEqDiff, Nat.reduceLT, reduceIte, cond_true, cond_false, List.map_cons, List.map_nil, Nat.reduceAdd], by simp (disch := omega) only [evs, Nat.reduceEqDiff, Nat.reduceLT, reduceIte, cond_true, cond_false, List.map_cons, List.map_nil, Nat.reduceAdd], Ib.nil _ _ _⟩
  rintro m t g ⟨r, w, hr', rfl, sg, f2, f5, f6, f7, bw⟩
  have hLg := hL2.grow sg
  unfold l27_0
  repeat (first
    | ((first | apply Ops.op | apply Ops.op0 | apply Drs.bar | apply Drs.pure); case e => (intro k; simp (disch := omega) only [evs, Nat.reduceEqDiff, Nat.reduceLT, reduceIte, cond_true, cond_false, Nat.reduceAdd, f2, f5, f6, f7, hLg.len]; rfl))
    | ((first | apply Ops.g1 | apply Drs.g1); case e => (simp (disch := omega) only [evs, Nat.reduceEqDiff, Nat.reduceLT, reduceIte, f2, f5, f6, f7, hLg.len]))
    | ((first | apply Ops.g0t | apply Ops.g0f | apply Drs.g0t | apply Drs.g0f); case e => (simp (disch := omega) only [evs, Nat.reduceEqDiff, Nat.reduceLT, reduceIte, f2, f5, f6, f7, hLg.len]))
    | ((first | apply Ops.g0u | apply Drs.g0u); case e => (simp (disch := omega) only [evs, Nat.reduceEqDiff, Nat.reduceLT, reduceIte, f2, f5, f6, f7, hLg.len]))
    | apply Ok.seq
    | apply Ok.block
    | (apply Ok.ops (S := Sx))
    | (apply Ok.condT; case e => (simp (disch := omega) only [evs, Nat.reduceEqDiff, Nat.reduceLT, reduceIte, f2, f5, f6, f7, hLg.len]))
    | (apply Ok.condF; case e => (simp (disch := omega) only [evs, Nat.reduceEqDiff, Nat.reduceLT, reduceIte, f2, f5, f6, f7, hLg.len]))
    | ((first | apply Ops.nil | apply Drs.nil | apply Ok.skip | apply Ok.exit | apply Ok.ret); try simp only [Then_n, Then_e, Then_r, Out_n, Out_e, Out_r, Nat.reduceEqDiff, reduceIte])
    | (apply Ok.drs (S := Sx) hmix)
    )
  apply Ok.cond
  case hq => (simp (disch := omega) only [evs, Nat.reduceEqDiff, Nat.reduceLT, reduceIte, cond_true, cond_false, List.map_cons, List.map_nil, Nat.reduceAdd, f7]; rfl)
  case hb =>
    intro hc
    have hc := of_decide_eq_false hc
    have : r = L.length := by omega
    subst this
    repeat (first
      | ((first | apply Ops.op | apply Ops.op0 | apply Drs.bar | apply Drs.pure); case e => (intro k; simp (disch := omega) only [evs, Nat.reduceEqDiff, Nat.reduceLT, reduceIte, cond_true, cond_false, Nat.reduceAdd, f6]; rfl))
      | ((first | apply Ops.g1 | apply Drs.g1); case e => (simp (disch := omega) only [evs, Nat.reduceEqDiff, Nat.reduceLT, reduceIte, f6]))
      | ((first | apply Ops.g0t | apply Ops.g0f | apply Drs.g0t | apply Drs.g0f); case e => (simp (disch := omega) only [evs, Nat.reduceEqDiff, Nat.reduceLT, reduceIte, f6]))
      | ((first | apply Ops.g0u | apply Drs.g0u); case e => (simp (disch := omega) only [evs, Nat.reduceEqDiff, Nat.reduceLT, reduceIte, f6]))
      | apply Ok.seq
      | apply Ok.block
      | (apply Ok.ops (S := Sx))
      | (apply Ok.condT; case e => (simp (disch := omega) only [evs, Nat.reduceEqDiff, Nat.reduceLT, reduceIte, f6]))
      | (apply Ok.condF; case e => (simp (disch := omega) only [evs, Nat.reduceEqDiff, Nat.reduceLT, reduceIte, f6]))
      | ((first | apply Ops.nil | apply Drs.nil | apply Ok.skip | apply Ok.exit | apply Ok.ret); try simp only [Then_n, Then_e, Then_r, Out_n, Out_e, Out_r, Nat.reduceEqDiff, reduceIte])
      | (apply Ok.drs (S := Sx) hmix)
      )
    refine ⟨_, fun k => res_1 _ _ _ k, ?_⟩
    simp (disch := omega) only [evs, Nat.reduceEqDiff, Nat.reduceLT, reduceIte, cond_true, cond_false, List.map_cons, List.map_nil, Nat.reduceAdd, one_1, f6]
    exact ⟨⟨bw.buf, fun i hi => Nat.le_trans st.next (bw.own i hi)⟩, st.trans sg⟩
  case ha =>
  intro hc
  have hc := of_decide_eq_true hc
  obtain ⟨b, hb, hbM, h0⟩ := hmem r (by omega)
  repeat (first
    | ((first | apply Ops.op | apply Ops.op0 | apply Drs.bar | apply Drs.pure); case e => (intro k; simp (disch := omega) only [evs, Nat.reduceEqDiff, Nat.reduceLT, reduceIte, cond_true, cond_false, Nat.reduceAdd, f2, f5, f6, f7]; rfl))
    | ((first | apply Ops.g1 | apply Drs.g1); case e => (simp (disch := omega) only [evs, Nat.reduceEqDiff, Nat.reduceLT, reduceIte, f2, f5, f6, f7]))
    | ((first | apply Ops.g0t | apply Ops.g0f | apply Drs.g0t | apply Drs.g0f); case e => (simp (disch := omega) only [evs, Nat.reduceEqDiff, Nat.reduceLT, reduceIte, f2, f5, f6, f7]))
    | ((first | apply Ops.g0u | apply Drs.g0u); case e => (simp (disch := omega) only [evs, Nat.reduceEqDiff, Nat.reduceLT, reduceIte, f2, f5, f6, f7]))
    | apply Ok.seq
    | apply Ok.block
    | (apply Ok.ops (S := Sx))
    | (apply Ok.condT; case e => (simp (disch := omega) only [evs, Nat.reduceEqDiff, Nat.reduceLT, reduceIte, f2, f5, f6, f7]))
    | (apply Ok.condF; case e => (simp (disch := omega) only [evs, Nat.reduceEqDiff, Nat.reduceLT, reduceIte, f2, f5, f6, f7]))
    | ((first | apply Ops.nil | apply Drs.nil | apply Ok.skip | apply Ok.exit | apply Ok.ret); try simp only [Then_n, Then_e, Then_r, Out_n, Out_e, Out_r, Nat.reduceEqDiff, reduceIte])
    | (apply Ok.drs (S := Sx) hmix)
    )
  refine Ok.loop (fun m t g' => ∃ q : Nat, q ≤ L.length ∧ m = L.length - q ∧ Stay nowhere g g' ∧ get 2 t = .p id 0 0 1 ∧ get 5 t = y ∧ get 6 t = w ∧ get 7 t = .i .i64 (r : Int) ∧ get 8 t = .b (topB M L (b : Int) q) ∧ get 9 t = .i .i64 (q : Int)) ?_ L.length _ _ ?_
  case refine_2 => exact ⟨0, Nat.zero_le _, rfl, Stay.refl _ _, by simp (disch := omega) only [evs, Nat.reduceEqDiff, Nat.reduceLT, reduceIte, cond_true, cond_false, List.map_cons, List.map_nil, Nat.reduceAdd, f2], by simp (disch := omega) only [evs, Nat.reduceEqDiff, Nat.reduceLT, reduceIte, cond_true, cond_false, List.map_cons, List.map_nil, Nat.reduceAdd, f5], by simp (disch := omega) only [evs, Nat.reduceEqDiff, Nat.reduceLT, reduceIte, cond_true, cond_false, List.map_cons, List.map_nil, Nat.reduceAdd, f6], by simp (disch := omega) only [evs, Nat.reduceEqDiff, Nat.reduceLT, reduceIte, cond_true, cond_false, List.map_cons, List.map_nil, Nat.reduceAdd, f7], by (simp (disch := omega) only [evs, Nat.reduceEqDiff, Nat.reduceLT, reduceIte, cond_true, cond_false, List.map_cons, List.map_nil, Nat.reduceAdd]) <;> rfl, by simp (disch := omega) only [evs, Nat.reduceEqDiff, Nat.reduceLT, reduceIte, cond_true, cond_false, List.map_cons, List.map_nil, Nat.reduceAdd]⟩
  clear f2 f5 f6 f7
  rintro m t g' ⟨q, hq', rfl, sq, f2, f5, f6, f7, f8, f9⟩
  have sgq := sg.trans sq
  have hrowq := hrow2.grow sgq hlt2
  have hMq := hM2.grow sgq
  have hLq := hL2.grow sgq
  unfold l27_1
  repeat (first
    | ((first | apply Ops.op | apply Ops.op0 | apply Drs.bar | apply Drs.pure); case e => (intro k; simp (disch := omega) only [evs, Nat.reduceEqDiff, Nat.reduceLT, reduceIte, cond_true, cond_false, Nat.reduceAdd, f2, f5, f6, f7, f8, f9, hLq.len]; rfl))
    | ((first | apply Ops.g1 | apply Drs.g1); case e => (simp (disch := omega) only [evs, Nat.reduceEqDiff, Nat.reduceLT, reduceIte, f2, f5, f6, f7, f8, f9, hLq.len]))
    | ((first | apply Ops.g0t | apply Ops.g0f | apply Drs.g0t | apply Drs.g0f); case e => (simp (disch := omega) only [evs, Nat.reduceEqDiff, Nat.reduceLT, reduceIte, f2, f5, f6, f7, f8, f9, hLq.len]))
    | ((first | apply Ops.g0u | apply Drs.g0u); case e => (simp (disch := omega) only [evs, Nat.reduceEqDiff, Nat.reduceLT, reduceIte, f2, f5, f6, f7, f8, f9, hLq.len]))
    | apply Ok.seq
    | apply Ok.block
    | (apply Ok.ops (S := Sx))
    | (apply Ok.condT; case e => (simp (disch := omega) only [evs, Nat.reduceEqDiff, Nat.reduceLT, reduceIte, f2, f5, f6, f7, f8, f9, hLq.len]))
    | (apply Ok.condF; case e => (simp (disch := omega) only [evs, Nat.reduceEqDiff, Nat.reduceLT, reduceIte, f2, f5, f6, f7, f8, f9, hLq.len]))
    | ((first | apply Ops.nil | apply Drs.nil | apply Ok.skip | apply Ok.exit | apply Ok.ret); try simp only [Then_n, Then_e, Then_r, Out_n, Out_e, Out_r, Nat.reduceEqDiff, reduceIte])
    | (apply Ok.drs (S := Sx) hmix)
    )
  apply Ok.cond
  case hq => (simp (disch := omega) only [evs, Nat.reduceEqDiff, Nat.reduceLT, reduceIte, cond_true, cond_false, List.map_cons, List.map_nil, Nat.reduceAdd, f9]; rfl)
  case hb =>
    intro hc2
    have hc2 := of_decide_eq_false hc2
    have : q = L.length := by omega
    subst this
    have bwq := bw.grow sq
    have fgq := (st.trans sgq).fl hf
    have cl := covers0_len M L r
    cases ht : topB M L (b : Int) L.length with
    | false =>
      repeat (first
        | ((first | apply Ops.op | apply Ops.op0 | apply Drs.bar | apply Drs.pure); case e => (intro k; simp (disch := omega) only [evs, Nat.reduceEqDiff, Nat.reduceLT, reduceIte, cond_true, cond_false, Nat.reduceAdd, f2, f5, f6, f7, f8, ht]; rfl))
        | ((first | apply Ops.g1 | apply Drs.g1); case e => (simp (disch := omega) only [evs, Nat.reduceEqDiff, Nat.reduceLT, reduceIte, f2, f5, f6, f7, f8, ht]))
        | ((first | apply Ops.g0t | apply Ops.g0f | apply Drs.g0t | apply Drs.g0f); case e => (simp (disch := omega) only [evs, Nat.reduceEqDiff, Nat.reduceLT, reduceIte, f2, f5, f6, f7, f8, ht]))
        | ((first | apply Ops.g0u | apply Drs.g0u); case e => (simp (disch := omega) only [evs, Nat.reduceEqDiff, Nat.reduceLT, reduceIte, f2, f5, f6, f7, f8, ht]))
        | apply Ok.seq
        | apply Ok.block
        | (apply Ok.ops (S := Sx))
        | (apply Ok.condT; case e => (simp (disch := omega) only [evs, Nat.reduceEqDiff, Nat.reduceLT, reduceIte, f2, f5, f6, f7, f8, ht]))
        | (apply Ok.condF; case e => (simp (disch := omega) only [evs, Nat.reduceEqDiff, Nat.reduceLT, reduceIte, f2, f5, f6, f7, f8, ht]))
        | ((first | apply Ops.nil | apply Drs.nil | apply Ok.skip | apply Ok.exit | apply Ok.ret); try simp only [Then_n, Then_e, Then_r, Out_n, Out_e, Out_r, Nat.reduceEqDiff, reduceIte])
        | (apply Ok.drs (S := Sx) hmix)
        )
      refine ⟨L.length - (r + 1), by omega, r + 1, w, by omega, rfl, sgq, by simp (disch := omega) only [evs, Nat.reduceEqDiff, Nat.reduceLT, reduceIte, cond_true, cond_false, List.map_cons, List.map_nil, Nat.reduceAdd, f2], by simp (disch := omega) only [evs, Nat.reduceEqDiff, Nat.reduceLT, reduceIte, cond_true, cond_false, List.map_cons, List.map_nil, Nat.reduceAdd, f5], by simp (disch := omega) only [evs, Nat.reduceEqDiff, Nat.reduceLT, reduceIte, cond_true, cond_false, List.map_cons, List.map_nil, Nat.reduceAdd, f6], by simp (disch := omega) only [evs, Nat.reduceEqDiff, Nat.reduceLT, reduceIte, cond_true, cond_false, List.map_cons, List.map_nil, Nat.reduceAdd, f7, Int.natCast_add, Int.natCast_one], ?_⟩
      rw [covers0_succ M L (by omega), hb, if_neg (by rw [ht]; simp), List.append_nil]
      exact bwq
    | true =>
      repeat (first
        | ((first | apply Ops.op | apply Ops.op0 | apply Drs.bar | apply Drs.pure); case e => (intro k; simp (disch := omega) only [evs, Nat.reduceEqDiff, Nat.reduceLT, reduceIte, cond_true, cond_false, Nat.reduceAdd, f2, f5, f6, f7, f8, ht, hLq.idx, hLq.rd, hb]; rfl))
        | ((first | apply Ops.g1 | apply Drs.g1); case e => (simp (disch := omega) only [evs, Nat.reduceEqDiff, Nat.reduceLT, reduceIte, f2, f5, f6, f7, f8, ht, hLq.idx, hLq.rd, hb]))
        | ((first | apply Ops.g0t | apply Ops.g0f | apply Drs.g0t | apply Drs.g0f); case e => (simp (disch := omega) only [evs, Nat.reduceEqDiff, Nat.reduceLT, reduceIte, f2, f5, f6, f7, f8, ht, hLq.idx, hLq.rd, hb]))
        | ((first | apply Ops.g0u | apply Drs.g0u); case e => (simp (disch := omega) only [evs, Nat.reduceEqDiff, Nat.reduceLT, reduceIte, f2, f5, f6, f7, f8, ht, hLq.idx, hLq.rd, hb]))
        | apply Ok.seq
        | apply Ok.block
        | (apply Ok.ops (S := Sx))
        | (apply Ok.condT; case e => (simp (disch := omega) only [evs, Nat.reduceEqDiff, Nat.reduceLT, reduceIte, f2, f5, f6, f7, f8, ht, hLq.idx, hLq.rd, hb]))
        | (apply Ok.condF; case e => (simp (disch := omega) only [evs, Nat.reduceEqDiff, Nat.reduceLT, reduceIte, f2, f5, f6, f7, f8, ht, hLq.idx, hLq.rd, hb]))
        | ((first | apply Ops.nil | apply Drs.nil | apply Ok.skip | apply Ok.exit | apply Ok.ret); try simp only [Then_n, Then_e, Then_r, Out_n, Out_e, Out_r, Nat.reduceEqDiff, reduceIte])
        | (apply Ok.drs (S := Sx) hmix)
        )
      apply Ops.push
      case hnm => decide
      case hm => decide
      case e1 => (simp (disch := omega) only [evs, Nat.reduceEqDiff, Nat.reduceLT, reduceIte, cond_true, cond_false, List.map_cons, List.map_nil, Nat.reduceAdd, f6]; rfl)
      case e2 => (simp (disch := omega) only [evs, Nat.reduceEqDiff, Nat.reduceLT, reduceIte, cond_true, cond_false, List.map_cons, List.map_nil, Nat.reduceAdd]; rfl)
      case a => exact bwq
      case hf => exact fgq
      case hlo => exact sgq.next
      case hl => omega
      case e3 => intro u; simp (disch := omega) only [evs, Nat.reduceEqDiff, Nat.reduceLT, reduceIte, cond_true, cond_false, List.map_cons, List.map_nil, Nat.reduceAdd, f6]
      case hs => intro e; cases e
      case k =>
      intro w' g2 u b' s'
      repeat (first
        | ((first | apply Ops.op | apply Ops.op0 | apply Drs.bar | apply Drs.pure); case e => (intro k; simp (disch := omega) only [evs, Nat.reduceEqDiff, Nat.reduceLT, reduceIte, cond_true, cond_false, Nat.reduceAdd, f2, f5, f7]; rfl))
        | ((first | apply Ops.g1 | apply Drs.g1); case e => (simp (disch := omega) only [evs, Nat.reduceEqDiff, Nat.reduceLT, reduceIte, f2, f5, f7]))
        | ((first | apply Ops.g0t | apply Ops.g0f | apply Drs.g0t | apply Drs.g0f); case e => (simp (disch := omega) only [evs, Nat.reduceEqDiff, Nat.reduceLT, reduceIte, f2, f5, f7]))
        | ((first | apply Ops.g0u | apply Drs.g0u); case e => (simp (disch := omega) only [evs, Nat.reduceEqDiff, Nat.reduceLT, reduceIte, f2, f5, f7]))
        | apply Ok.seq
        | apply Ok.block
        | (apply Ok.ops (S := Sx))
        | (apply Ok.condT; case e => (simp (disch := omega) only [evs, Nat.reduceEqDiff, Nat.reduceLT, reduceIte, f2, f5, f7]))
        | (apply Ok.condF; case e => (simp (disch := omega) only [evs, Nat.reduceEqDiff, Nat.reduceLT, reduceIte, f2, f5, f7]))
        | ((first | apply Ops.nil | apply Drs.nil | apply Ok.skip | apply Ok.exit | apply Ok.ret); try simp only [Then_n, Then_e, Then_r, Out_n, Out_e, Out_r, Nat.reduceEqDiff, reduceIte])
        | (apply Ok.drs (S := Sx) hmix)
        )
      refine ⟨L.length - (r + 1), by omega, r + 1, w', by omega, rfl, ?_, by simp (disch := omega) only [evs, Nat.reduceEqDiff, Nat.reduceLT, reduceIte, cond_true, cond_false, List.map_cons, List.map_nil, Nat.reduceAdd, f2], by simp (disch := omega) only [evs, Nat.reduceEqDiff, Nat.reduceLT, reduceIte, cond_true, cond_false, List.map_cons, List.map_nil, Nat.reduceAdd, f5], by simp (disch := omega) only [evs, Nat.reduceEqDiff, Nat.reduceLT, reduceIte, cond_true, cond_false, List.map_cons, List.map_nil, Nat.reduceAdd], by simp (disch := omega) only [evs, Nat.reduceEqDiff, Nat.reduceLT, reduceIte, cond_true, cond_false, List.map_cons, List.map_nil, Nat.reduceAdd, f7, Int.natCast_add, Int.natCast_one], ?_⟩
      · exact sgq.past' s' fun i hi => bwq.own i hi
      · rw [covers0_succ M L (by omega), hb, if_pos ht]
        exact b'
  case ha =>
  intro hc2
  have hc2 := of_decide_eq_true hc2
  obtain ⟨c, hcL, hcM, _⟩ := hmem q (by omega)
  cases ht : topB M L (b : Int) q with
  | false =>
    repeat (first
      | ((first | apply Ops.op | apply Ops.op0 | apply Drs.bar | apply Drs.pure); case e => (intro k; simp (disch := omega) only [evs, Nat.reduceEqDiff, Nat.reduceLT, reduceIte, cond_true, cond_false, Nat.reduceAdd, f2, f5, f6, f7, f8, f9, ht]; rfl))
      | ((first | apply Ops.g1 | apply Drs.g1); case e => (simp (disch := omega) only [evs, Nat.reduceEqDiff, Nat.reduceLT, reduceIte, f2, f5, f6, f7, f8, f9, ht]))
      | ((first | apply Ops.g0t | apply Ops.g0f | apply Drs.g0t | apply Drs.g0f); case e => (simp (disch := omega) only [evs, Nat.reduceEqDiff, Nat.reduceLT, reduceIte, f2, f5, f6, f7, f8, f9, ht]))
      | ((first | apply Ops.g0u | apply Drs.g0u); case e => (simp (disch := omega) only [evs, Nat.reduceEqDiff, Nat.reduceLT, reduceIte, f2, f5, f6, f7, f8, f9, ht]))
      | apply Ok.seq
      | apply Ok.block
      | (apply Ok.ops (S := Sx))
      | (apply Ok.condT; case e => (simp (disch := omega) only [evs, Nat.reduceEqDiff, Nat.reduceLT, reduceIte, f2, f5, f6, f7, f8, f9, ht]))
      | (apply Ok.condF; case e => (simp (disch := omega) only [evs, Nat.reduceEqDiff, Nat.reduceLT, reduceIte, f2, f5, f6, f7, f8, f9, ht]))
      | ((first | apply Ops.nil | apply Drs.nil | apply Ok.skip | apply Ok.exit | apply Ok.ret); try simp only [Then_n, Then_e, Then_r, Out_n, Out_e, Out_r, Nat.reduceEqDiff, reduceIte])
      | (apply Ok.drs (S := Sx) hmix)
      )
    refine ⟨L.length - (q + 1), by omega, q + 1, by omega, rfl, ?_, by simp (disch := omega) only [evs, Nat.reduceEqDiff, Nat.reduceLT, reduceIte, cond_true, cond_false, List.map_cons, List.map_nil, Nat.reduceAdd, f2], by simp (disch := omega) only [evs, Nat.reduceEqDiff, Nat.reduceLT, reduceIte, cond_true, cond_false, List.map_cons, List.map_nil, Nat.reduceAdd, f5], by simp (disch := omega) only [evs, Nat.reduceEqDiff, Nat.reduceLT, reduceIte, cond_true, cond_false, List.map_cons, List.map_nil, Nat.reduceAdd, f6], by simp (disch := omega) only [evs, Nat.reduceEqDiff, Nat.reduceLT, reduceIte, cond_true, cond_false, List.map_cons, List.map_nil, Nat.reduceAdd, f7], ?_, by simp (disch := omega) only [evs, Nat.reduceEqDiff, Nat.reduceLT, reduceIte, cond_true, cond_false, List.map_cons, List.map_nil, Nat.reduceAdd, f9, Int.natCast_add, Int.natCast_one]⟩
    · exact sq
    · rw [topB_succ M L _ (by omega), ht]
      simp (disch := omega) only [evs, Nat.reduceEqDiff, Nat.reduceLT, reduceIte, cond_true, cond_false, List.map_cons, List.map_nil, Nat.reduceAdd, Bool.false_and]
  | true =>
  repeat (first
    | ((first | apply Ops.op | apply Ops.op0 | apply Drs.bar | apply Drs.pure); case e => (intro k; simp (disch := omega) only [evs, Nat.reduceEqDiff, Nat.reduceLT, reduceIte, cond_true, cond_false, Nat.reduceAdd, f2, f5, f6, f7, f8, f9, ht, hrowq.rdA, hLq.idx, hLq.rd, hb, hcL]; rfl))
    | ((first | apply Ops.g1 | apply Drs.g1); case e => (simp (disch := omega) only [evs, Nat.reduceEqDiff, Nat.reduceLT, reduceIte, f2, f5, f6, f7, f8, f9, ht, hrowq.rdA, hLq.idx, hLq.rd, hb, hcL]))
    | ((first | apply Ops.g0t | apply Ops.g0f | apply Drs.g0t | apply Drs.g0f); case e => (simp (disch := omega) only [evs, Nat.reduceEqDiff, Nat.reduceLT, reduceIte, f2, f5, f6, f7, f8, f9, ht, hrowq.rdA, hLq.idx, hLq.rd, hb, hcL]))
    | ((first | apply Ops.g0u | apply Drs.g0u); case e => (simp (disch := omega) only [evs, Nat.reduceEqDiff, Nat.reduceLT, reduceIte, f2, f5, f6, f7, f8, f9, ht, hrowq.rdA, hLq.idx, hLq.rd, hb, hcL]))
    | apply Ok.seq
    | apply Ok.block
    | (apply Ok.ops (S := Sx))
    | (apply Ok.condT; case e => (simp (disch := omega) only [evs, Nat.reduceEqDiff, Nat.reduceLT, reduceIte, f2, f5, f6, f7, f8, f9, ht, hrowq.rdA, hLq.idx, hLq.rd, hb, hcL]))
    | (apply Ok.condF; case e => (simp (disch := omega) only [evs, Nat.reduceEqDiff, Nat.reduceLT, reduceIte, f2, f5, f6, f7, f8, f9, ht, hrowq.rdA, hLq.idx, hLq.rd, hb, hcL]))
    | ((first | apply Ops.nil | apply Drs.nil | apply Ok.skip | apply Ok.exit | apply Ok.ret); try simp only [Then_n, Then_e, Then_r, Out_n, Out_e, Out_r, Nat.reduceEqDiff, reduceIte])
    | (apply Ok.drs (S := Sx) hmix)
    )
  apply Drs.callBar
  case e => (simp (disch := omega) only [evs, Nat.reduceEqDiff, Nat.reduceLT, reduceIte, cond_true, cond_false, List.map_cons, List.map_nil, Nat.reduceAdd]; rfl)
  case hf => rw [hSx]; exact sr_rabove hMq hs hrl c b
  case k =>
  intro z g3 hy
  rw [hSx] at hy
  obtain ⟨rfl, s3⟩ := hy _ _ rfl
  repeat (first
    | ((first | apply Ops.op | apply Ops.op0 | apply Drs.bar | apply Drs.pure); case e => (intro k; simp (disch := omega) only [evs, Nat.reduceEqDiff, Nat.reduceLT, reduceIte, cond_true, cond_false, Nat.reduceAdd, f2, f5, f6, f7, f8, f9, ht]; rfl))
    | ((first | apply Ops.g1 | apply Drs.g1); case e => (simp (disch := omega) only [evs, Nat.reduceEqDiff, Nat.reduceLT, reduceIte, f2, f5, f6, f7, f8, f9, ht]))
    | ((first | apply Ops.g0t | apply Ops.g0f | apply Drs.g0t | apply Drs.g0f); case e => (simp (disch := omega) only [evs, Nat.reduceEqDiff, Nat.reduceLT, reduceIte, f2, f5, f6, f7, f8, f9, ht]))
    | ((first | apply Ops.g0u | apply Drs.g0u); case e => (simp (disch := omega) only [evs, Nat.reduceEqDiff, Nat.reduceLT, reduceIte, f2, f5, f6, f7, f8, f9, ht]))
    | apply Ok.seq
    | apply Ok.block
    | (apply Ok.ops (S := Sx))
    | (apply Ok.condT; case e => (simp (disch := omega) only [evs, Nat.reduceEqDiff, Nat.reduceLT, reduceIte, f2, f5, f6, f7, f8, f9, ht]))
    | (apply Ok.condF; case e => (simp (disch := omega) only [evs, Nat.reduceEqDiff, Nat.reduceLT, reduceIte, f2, f5, f6, f7, f8, f9, ht]))
    | ((first | apply Ops.nil | apply Drs.nil | apply Ok.skip | apply Ok.exit | apply Ok.ret); try simp only [Then_n, Then_e, Then_r, Out_n, Out_e, Out_r, Nat.reduceEqDiff, reduceIte])
    | (apply Ok.drs (S := Sx) hmix)
    )
  refine ⟨L.length - (q + 1), by omega, q + 1, by omega, rfl, ?_, by simp (disch := omega) only [evs, Nat.reduceEqDiff, Nat.reduceLT, reduceIte, cond_true, cond_false, List.map_cons, List.map_nil, Nat.reduceAdd, f2], by simp (disch := omega) only [evs, Nat.reduceEqDiff, Nat.reduceLT, reduceIte, cond_true, cond_false, List.map_cons, List.map_nil, Nat.reduceAdd, f5], by simp (disch := omega) only [evs, Nat.reduceEqDiff, Nat.reduceLT, reduceIte, cond_true, cond_false, List.map_cons, List.map_nil, Nat.reduceAdd, f6], by simp (disch := omega) only [evs, Nat.reduceEqDiff, Nat.reduceLT, reduceIte, cond_true, cond_false, List.map_cons, List.map_nil, Nat.reduceAdd, f7], ?_, by simp (disch := omega) only [evs, Nat.reduceEqDiff, Nat.reduceLT, reduceIte, cond_true, cond_false, List.map_cons, List.map_nil, Nat.reduceAdd, f9, Int.natCast_add, Int.natCast_one]⟩
  · exact sq.trans s3
  · rw [topB_succ M L _ (by omega), ht, hcL, ← above_top hbM hcM h0]
    simp (disch := omega) only [evs, Nat.reduceEqDiff, Nat.reduceLT, reduceIte, cond_true, cond_false, List.map_cons, List.map_nil, Nat.reduceAdd, Bool.true_and]

theorem Ib.stay' {h h' : H} {lo el : Nat} {v : V} {xs : List Int} {p : B → Prop} (a : Ib h lo el v xs) (s : Stay p h h') (hp : ∀ id, isOf v id → ¬ p id) : Ib h' lo el v xs := ⟨a.buf.stay s hp, a.own⟩

/-- the places of the document's array are those of the code's slice -/
structure Same6 (M : Mt) (D P : List Bool) : Prop where
  len : D.length = 6
  at_ : ∀ i, i < lvls M → D.getD i false = P.getD i false
theorem Same6.set {M : Mt} {D P : List Bool} (s : Same6 M D P) {a : Nat} (ha : a < lvls M) (hP : P.length = lvls M) (h6 : lvls M ≤ 6) : Same6 M (D.set a true) (P.set a true) := by
  refine ⟨by rw [List.length_set]; exact s.len, fun i hi => ?_⟩
  rw [getD_set D a i (by rw [s.len]; omega), getD_set P a i (by omega), s.at_ i hi]
theorem freeA_succ {M : Mt} {P : List Bool} {a q : Nat} (ha : a < lvls M) (hq : q < lvls M) : freeB M P a (q + 1) = (freeB M P a q && (P.getD q false || !aboveB M (a : Int) (q : Int))) := by
  rw [freeB_succ]
  congr 1
  obtain ⟨q1, q2, q3, q4⟩ := lvls_rows (M := M) (a := a) ha
  have l1 : isLv M (a : Int) = true := decide_eq_true ⟨by omega, by omega⟩
  have l2 : isLv M (q : Int) = true := decide_eq_true ⟨by omega, by omega⟩
  unfold aboveB domB
  rw [l1, l2, Int.toNat_natCast, Int.toNat_natCast]
  by_cases hne : q = a
  · subst hne; simp
  · have h1 : decide ((a : Int) = (q : Int)) = false := decide_eq_false (by omega)
    have h2 : (q == a) = false := beq_eq_false_iff_ne.2 hne
    rw [h1, h2]
    cases at2 M a q <;> cases P.getD q false <;> rfl

theorem rorder_ok {h : H} {v : V} {M : Mt} (hM : Mx h v M) (hs : M.length ≤ 1000000) (hrl : ∀ i, i < M.length → (M.getD i []).length ≤ 1000000) (hf : B.val h.floor ≤ B.val h.next) : FnOk Try.prog 29 [.a [v]] h fun y h' => Il h' y (orderL M) ∧ Stay nowhere h h' := by
  refine fn_run c29 (by intro hb; cases hb) (by simp) (by simp) ?_
  simp only [slotsF, Nat.reduceAdd]
  unfold b29
  obtain ⟨Sx, hSx⟩ : ∃ S, S = SR v M := ⟨_, rfl⟩
  have h6 : lvls M ≤ 6 := by
    rcases Nat.eq_zero_or_pos (lvls M) with h | h
    · omega
    · have := lvls_rows h; omega
  repeat (first
    | ((first | apply Ops.op | apply Ops.op0 | apply Drs.bar | apply Drs.pure); case e => (intro k; simp (disch := omega) only [evs, Nat.reduceEqDiff, Nat.reduceLT, reduceIte, cond_true, cond_false, Nat.reduceAdd]; rfl))
    | ((first | apply Ops.g1 | apply Drs.g1); case e => (simp (disch := omega) only [evs, Nat.reduceEqDiff, Nat.reduceLT, reduceIte]))
    | ((first | apply Ops.g0t | apply Ops.g0f | apply Drs.g0t | apply Drs.g0f); case e => (simp (disch := omega) only [evs, Nat.reduceEqDiff, Nat.reduceLT, reduceIte]))
    | ((first | apply Ops.g0u | apply Drs.g0u); case e => (simp (disch := omega) only [evs, Nat.reduceEqDiff, Nat.reduceLT, reduceIte]))
    | apply Ok.seq
    | apply Ok.block
    | (apply Ok.ops (S := Sp))
    | (apply Ok.condT; case e => (simp (disch := omega) only [evs, Nat.reduceEqDiff, Nat.reduceLT, reduceIte]))
    | (apply Ok.condF; case e => (simp (disch := omega) only [evs, Nat.reduceEqDiff, Nat.reduceLT, reduceIte]))
    | ((first | apply Ops.nil | apply Drs.nil | apply Ok.skip | apply Ok.exit | apply Ok.ret); try simp only [Then_n, Then_e, Then_r, Out_n, Out_e, Out_r, Nat.reduceEqDiff, reduceIte])
    | (apply Ok.drs (S := Sp) hmix)
    )
  apply Ops.box1
  case e => (simp (disch := omega) only [evs, Nat.reduceEqDiff, Nat.reduceLT, reduceIte, cond_true, cond_false, List.map_cons, List.map_nil, Nat.reduceAdd]; rfl)
  case k =>
  intro h1 id s1 hlt hge hrow
  have hM1 := hM.grow s1
  repeat (first
    | ((first | apply Ops.op | apply Ops.op0 | apply Drs.bar | apply Drs.pure); case e => (intro k; simp (disch := omega) only [evs, Nat.reduceEqDiff, Nat.reduceLT, reduceIte, cond_true, cond_false, Nat.reduceAdd]; rfl))
    | ((first | apply Ops.g1 | apply Drs.g1); case e => (simp (disch := omega) only [evs, Nat.reduceEqDiff, Nat.reduceLT, reduceIte]))
    | ((first | apply Ops.g0t | apply Ops.g0f | apply Drs.g0t | apply Drs.g0f); case e => (simp (disch := omega) only [evs, Nat.reduceEqDiff, Nat.reduceLT, reduceIte]))
    | ((first | apply Ops.g0u | apply Drs.g0u); case e => (simp (disch := omega) only [evs, Nat.reduceEqDiff, Nat.reduceLT, reduceIte]))
    | apply Ok.seq
    | apply Ok.block
    | (apply Ok.ops (S := Sx))
    | (apply Ok.condT; case e => (simp (disch := omega) only [evs, Nat.reduceEqDiff, Nat.reduceLT, reduceIte]))
    | (apply Ok.condF; case e => (simp (disch := omega) only [evs, Nat.reduceEqDiff, Nat.reduceLT, reduceIte]))
    | ((first | apply Ops.nil | apply Drs.nil | apply Ok.skip | apply Ok.exit | apply Ok.ret); try simp only [Then_n, Then_e, Then_r, Out_n, Out_e, Out_r, Nat.reduceEqDiff, reduceIte])
    | (apply Ok.drs (S := Sx) hmix)
    )
  apply Ops.allocN (by simp) (s1.fl hf)
  case k =>
  intro h2 idd s2 hidd hn2 od
  have hlo : B.val idd < B.val h2.next := by rw [hidd]; omega
  repeat (first
    | ((first | apply Ops.op | apply Ops.op0 | apply Drs.bar | apply Drs.pure); case e => (intro k; simp (disch := omega) only [evs, Nat.reduceEqDiff, Nat.reduceLT, reduceIte, cond_true, cond_false, Nat.reduceAdd]; rfl))
    | ((first | apply Ops.g1 | apply Drs.g1); case e => (simp (disch := omega) only [evs, Nat.reduceEqDiff, Nat.reduceLT, reduceIte]))
    | ((first | apply Ops.g0t | apply Ops.g0f | apply Drs.g0t | apply Drs.g0f); case e => (simp (disch := omega) only [evs, Nat.reduceEqDiff, Nat.reduceLT, reduceIte]))
    | ((first | apply Ops.g0u | apply Drs.g0u); case e => (simp (disch := omega) only [evs, Nat.reduceEqDiff, Nat.reduceLT, reduceIte]))
    | apply Ok.seq
    | apply Ok.block
    | (apply Ok.ops (S := Sx))
    | (apply Ok.condT; case e => (simp (disch := omega) only [evs, Nat.reduceEqDiff, Nat.reduceLT, reduceIte]))
    | (apply Ok.condF; case e => (simp (disch := omega) only [evs, Nat.reduceEqDiff, Nat.reduceLT, reduceIte]))
    | ((first | apply Ops.nil | apply Drs.nil | apply Ok.skip | apply Ok.exit | apply Ok.ret); try simp only [Then_n, Then_e, Then_r, Out_n, Out_e, Out_r, Nat.reduceEqDiff, reduceIte])
    | (apply Ok.drs (S := Sx) hmix)
    )
  refine Ok.loop (fun m t g => ∃ (r : Nat) (D : List Bool) (w : V), r ≤ lvls M ∧ m = lvls M - r ∧ Stay nowhere h1 g ∧ B.val h2.next ≤ B.val g.next ∧ get 1 t = .p id 0 0 1 ∧ get 3 t = w ∧ get 4 t = .p idd 0 0 6 ∧ Ib g (B.val h2.next) 3 w (ordN M r).1 ∧ (ordN M r).1.length = r ∧ Own g idd (D.map V.b) ∧ Same6 M D (ordN M r).2) ?_ (lvls M) _ _ ?_
  case refine_2 =>
    refine ⟨0, List.replicate 6 false, .l0, Nat.zero_le _, rfl, s2, Nat.le_refl _, by simp (disch := omega) only [evs, Nat.reduceEqDiff, Nat.reduceLT, reduceIte, cond_true, cond_false, List.map_cons, List.map_nil, Nat.reduceAdd], by simp (disch := omega) only [evs, Nat.reduceEqDiff, Nat.reduceLT, reduceIte, cond_true, cond_false, List.map_cons, List.map_nil, Nat.reduceAdd], by (simp (disch := omega) only [evs, Nat.reduceEqDiff, Nat.reduceLT, reduceIte, cond_true, cond_false, List.map_cons, List.map_nil, Nat.reduceAdd]) <;> rfl, Ib.nil _ _ _, rfl, od, ⟨rfl, fun i hi => ?_⟩⟩
    show (List.replicate 6 false).getD i false = (List.replicate (lvls M) false).getD i false
    unfold List.getD
    rw [List.getElem?_replicate, List.getElem?_replicate, if_pos (by omega), if_pos hi]
  rintro m t g ⟨r, D, w, hr', rfl, sg, hng, f1, f3, f4, bw, hlr, o, s6⟩
  have hrowg := hrow.grow sg hlt
  have hMg := hM1.grow sg
  have hLg := bw.il
  unfold l29_0
  repeat (first
    | ((first | apply Ops.op | apply Ops.op0 | apply Drs.bar | apply Drs.pure); case e => (intro k; simp (disch := omega) only [evs, Nat.reduceEqDiff, Nat.reduceLT, reduceIte, cond_true, cond_false, Nat.reduceAdd, f1, f3, f4, hLg.len, hrowg.rdA]; rfl))
    | ((first | apply Ops.g1 | apply Drs.g1); case e => (simp (disch := omega) only [evs, Nat.reduceEqDiff, Nat.reduceLT, reduceIte, f1, f3, f4, hLg.len, hrowg.rdA]))
    | ((first | apply Ops.g0t | apply Ops.g0f | apply Drs.g0t | apply Drs.g0f); case e => (simp (disch := omega) only [evs, Nat.reduceEqDiff, Nat.reduceLT, reduceIte, f1, f3, f4, hLg.len, hrowg.rdA]))
    | ((first | apply Ops.g0u | apply Drs.g0u); case e => (simp (disch := omega) only [evs, Nat.reduceEqDiff, Nat.reduceLT, reduceIte, f1, f3, f4, hLg.len, hrowg.rdA]))
    | apply Ok.seq
    | apply Ok.block
    | (apply Ok.ops (S := Sx))
    | (apply Ok.condT; case e => (simp (disch := omega) only [evs, Nat.reduceEqDiff, Nat.reduceLT, reduceIte, f1, f3, f4, hLg.len, hrowg.rdA]))
    | (apply Ok.condF; case e => (simp (disch := omega) only [evs, Nat.reduceEqDiff, Nat.reduceLT, reduceIte, f1, f3, f4, hLg.len, hrowg.rdA]))
    | ((first | apply Ops.nil | apply Drs.nil | apply Ok.skip | apply Ok.exit | apply Ok.ret); try simp only [Then_n, Then_e, Then_r, Out_n, Out_e, Out_r, Nat.reduceEqDiff, reduceIte])
    | (apply Ok.drs (S := Sx) hmix)
    )
  apply Ops.call
  case e => (simp (disch := omega) only [evs, Nat.reduceEqDiff, Nat.reduceLT, reduceIte, cond_true, cond_false, List.map_cons, List.map_nil, Nat.reduceAdd]; rfl)
  case hf => rw [hSx]; exact sr_rlevels hMg hs hrl
  case k =>
  intro y g2 hy
  rw [hSx] at hy
  obtain ⟨rfl, s3⟩ := hy
  have sg2 := sg.trans s3
  have bw2 := bw.grow s3
  have o2 := o.stay s3 fun h => h
  have hng2 : B.val h2.next ≤ B.val g2.next := Nat.le_trans hng s3.next
  rw [hlr]
  repeat (first
    | ((first | apply Ops.op | apply Ops.op0 | apply Drs.bar | apply Drs.pure); case e => (intro k; simp (disch := omega) only [evs, Nat.reduceEqDiff, Nat.reduceLT, reduceIte, cond_true, cond_false, Nat.reduceAdd, f1, f3, f4]; rfl))
    | ((first | apply Ops.g1 | apply Drs.g1); case e => (simp (disch := omega) only [evs, Nat.reduceEqDiff, Nat.reduceLT, reduceIte, f1, f3, f4]))
    | ((first | apply Ops.g0t | apply Ops.g0f | apply Drs.g0t | apply Drs.g0f); case e => (simp (disch := omega) only [evs, Nat.reduceEqDiff, Nat.reduceLT, reduceIte, f1, f3, f4]))
    | ((first | apply Ops.g0u | apply Drs.g0u); case e => (simp (disch := omega) only [evs, Nat.reduceEqDiff, Nat.reduceLT, reduceIte, f1, f3, f4]))
    | apply Ok.seq
    | apply Ok.block
    | (apply Ok.ops (S := Sx))
    | (apply Ok.condT; case e => (simp (disch := omega) only [evs, Nat.reduceEqDiff, Nat.reduceLT, reduceIte, f1, f3, f4]))
    | (apply Ok.condF; case e => (simp (disch := omega) only [evs, Nat.reduceEqDiff, Nat.reduceLT, reduceIte, f1, f3, f4]))
    | ((first | apply Ops.nil | apply Drs.nil | apply Ok.skip | apply Ok.exit | apply Ok.ret); try simp only [Then_n, Then_e, Then_r, Out_n, Out_e, Out_r, Nat.reduceEqDiff, reduceIte])
    | (apply Ok.drs (S := Sx) hmix)
    )
  apply Ok.cond
  case hq => (simp (disch := omega) only [evs, Nat.reduceEqDiff, Nat.reduceLT, reduceIte, cond_true, cond_false, List.map_cons, List.map_nil, Nat.reduceAdd]; rfl)
  case hb =>
    intro hc
    have hc := of_decide_eq_false hc
    have : r = lvls M := by omega
    subst this
    repeat (first
      | ((first | apply Ops.op | apply Ops.op0 | apply Drs.bar | apply Drs.pure); case e => (intro k; simp (disch := omega) only [evs, Nat.reduceEqDiff, Nat.reduceLT, reduceIte, cond_true, cond_false, Nat.reduceAdd, f3]; rfl))
      | ((first | apply Ops.g1 | apply Drs.g1); case e => (simp (disch := omega) only [evs, Nat.reduceEqDiff, Nat.reduceLT, reduceIte, f3]))
      | ((first | apply Ops.g0t | apply Ops.g0f | apply Drs.g0t | apply Drs.g0f); case e => (simp (disch := omega) only [evs, Nat.reduceEqDiff, Nat.reduceLT, reduceIte, f3]))
      | ((first | apply Ops.g0u | apply Drs.g0u); case e => (simp (disch := omega) only [evs, Nat.reduceEqDiff, Nat.reduceLT, reduceIte, f3]))
      | apply Ok.seq
      | apply Ok.block
      | (apply Ok.ops (S := Sx))
      | (apply Ok.condT; case e => (simp (disch := omega) only [evs, Nat.reduceEqDiff, Nat.reduceLT, reduceIte, f3]))
      | (apply Ok.condF; case e => (simp (disch := omega) only [evs, Nat.reduceEqDiff, Nat.reduceLT, reduceIte, f3]))
      | ((first | apply Ops.nil | apply Drs.nil | apply Ok.skip | apply Ok.exit | apply Ok.ret); try simp only [Then_n, Then_e, Then_r, Out_n, Out_e, Out_r, Nat.reduceEqDiff, reduceIte])
      | (apply Ok.drs (S := Sx) hmix)
      )
    refine ⟨_, fun k => res_1 _ _ _ k, ?_⟩
    simp (disch := omega) only [evs, Nat.reduceEqDiff, Nat.reduceLT, reduceIte, cond_true, cond_false, List.map_cons, List.map_nil, Nat.reduceAdd, one_1, f3]
    exact ⟨bw2.il, s1.trans sg2⟩
  case ha =>
  intro hc
  have hc := of_decide_eq_true hc
  obtain ⟨q1, q2, q3, q4⟩ := lvls_rows (M := M) (a := r) (by omega)
  have os := ordN_st q2 r (by omega)
  obtain ⟨a0, ha0, hp0⟩ := unplaced os.plen (by rw [os.cnt]; omega)
  obtain ⟨a1, ha1, hr1⟩ := ready_ex q2 (ordN M r).2 _ a0 (Nat.le_refl _) ha0 hp0
  have hPl := os.plen
  clear os
  obtain ⟨P, hP⟩ : ∃ P, P = (ordN M r).2 := ⟨_, rfl⟩
  rw [← hP] at s6 hp0 hr1 hPl
  repeat (first
    | ((first | apply Ops.op | apply Ops.op0 | apply Drs.bar | apply Drs.pure); case e => (intro k; simp (disch := omega) only [evs, Nat.reduceEqDiff, Nat.reduceLT, reduceIte, cond_true, cond_false, Nat.reduceAdd, f1, f3, f4]; rfl))
    | ((first | apply Ops.g1 | apply Drs.g1); case e => (simp (disch := omega) only [evs, Nat.reduceEqDiff, Nat.reduceLT, reduceIte, f1, f3, f4]))
    | ((first | apply Ops.g0t | apply Ops.g0f | apply Drs.g0t | apply Drs.g0f); case e => (simp (disch := omega) only [evs, Nat.reduceEqDiff, Nat.reduceLT, reduceIte, f1, f3, f4]))
    | ((first | apply Ops.g0u | apply Drs.g0u); case e => (simp (disch := omega) only [evs, Nat.reduceEqDiff, Nat.reduceLT, reduceIte, f1, f3, f4]))
    | apply Ok.seq
    | apply Ok.block
    | (apply Ok.ops (S := Sx))
    | (apply Ok.condT; case e => (simp (disch := omega) only [evs, Nat.reduceEqDiff, Nat.reduceLT, reduceIte, f1, f3, f4]))
    | (apply Ok.condF; case e => (simp (disch := omega) only [evs, Nat.reduceEqDiff, Nat.reduceLT, reduceIte, f1, f3, f4]))
    | ((first | apply Ops.nil | apply Drs.nil | apply Ok.skip | apply Ok.exit | apply Ok.ret); try simp only [Then_n, Then_e, Then_r, Out_n, Out_e, Out_r, Nat.reduceEqDiff, reduceIte])
    | (apply Ok.drs (S := Sx) hmix)
    )
  refine Ok.loop (fun m t g => ∃ a : Nat, a ≤ lvls M ∧ m = lvls M - a ∧ Stay nowhere g2 g ∧ get 1 t = .p id 0 0 1 ∧ get 3 t = w ∧ get 4 t = .p idd 0 0 6 ∧ get 5 t = .i .i64 (a : Int) ∧ ∀ i, i < a → readyB M P i = false) ?_ (lvls M) _ _ ?_
  case refine_2 => exact ⟨0, Nat.zero_le _, rfl, Stay.refl _ _, by simp (disch := omega) only [evs, Nat.reduceEqDiff, Nat.reduceLT, reduceIte, cond_true, cond_false, List.map_cons, List.map_nil, Nat.reduceAdd, f1], by simp (disch := omega) only [evs, Nat.reduceEqDiff, Nat.reduceLT, reduceIte, cond_true, cond_false, List.map_cons, List.map_nil, Nat.reduceAdd, f3], by simp (disch := omega) only [evs, Nat.reduceEqDiff, Nat.reduceLT, reduceIte, cond_true, cond_false, List.map_cons, List.map_nil, Nat.reduceAdd, f4], by simp (disch := omega) only [evs, Nat.reduceEqDiff, Nat.reduceLT, reduceIte, cond_true, cond_false, List.map_cons, List.map_nil, Nat.reduceAdd], fun i hi => absurd hi (Nat.not_lt_zero _)⟩
  clear f1 f3 f4
  rintro m t g3 ⟨a, ha', rfl, sa, f1, f3, f4, f5, hF⟩
  have sg3 := sg2.trans sa
  have hrow3 := hrow.grow sg3 hlt
  have hM3 := hM1.grow sg3
  unfold l29_1
  repeat (first
    | ((first | apply Ops.op | apply Ops.op0 | apply Drs.bar | apply Drs.pure); case e => (intro k; simp (disch := omega) only [evs, Nat.reduceEqDiff, Nat.reduceLT, reduceIte, cond_true, cond_false, Nat.reduceAdd, f1, f3, f4, f5, hrow3.rdA]; rfl))
    | ((first | apply Ops.g1 | apply Drs.g1); case e => (simp (disch := omega) only [evs, Nat.reduceEqDiff, Nat.reduceLT, reduceIte, f1, f3, f4, f5, hrow3.rdA]))
    | ((first | apply Ops.g0t | apply Ops.g0f | apply Drs.g0t | apply Drs.g0f); case e => (simp (disch := omega) only [evs, Nat.reduceEqDiff, Nat.reduceLT, reduceIte, f1, f3, f4, f5, hrow3.rdA]))
    | ((first | apply Ops.g0u | apply Drs.g0u); case e => (simp (disch := omega) only [evs, Nat.reduceEqDiff, Nat.reduceLT, reduceIte, f1, f3, f4, f5, hrow3.rdA]))
    | apply Ok.seq
    | apply Ok.block
    | (apply Ok.ops (S := Sx))
    | (apply Ok.condT; case e => (simp (disch := omega) only [evs, Nat.reduceEqDiff, Nat.reduceLT, reduceIte, f1, f3, f4, f5, hrow3.rdA]))
    | (apply Ok.condF; case e => (simp (disch := omega) only [evs, Nat.reduceEqDiff, Nat.reduceLT, reduceIte, f1, f3, f4, f5, hrow3.rdA]))
    | ((first | apply Ops.nil | apply Drs.nil | apply Ok.skip | apply Ok.exit | apply Ok.ret); try simp only [Then_n, Then_e, Then_r, Out_n, Out_e, Out_r, Nat.reduceEqDiff, reduceIte])
    | (apply Ok.drs (S := Sx) hmix)
    )
  apply Ops.call
  case e => (simp (disch := omega) only [evs, Nat.reduceEqDiff, Nat.reduceLT, reduceIte, cond_true, cond_false, List.map_cons, List.map_nil, Nat.reduceAdd]; rfl)
  case hf => rw [hSx]; exact sr_rlevels hM3 hs hrl
  case k =>
  intro y g4 hy
  rw [hSx] at hy
  obtain ⟨rfl, s4⟩ := hy
  have sa4 := sa.trans s4
  have sg4 := sg2.trans sa4
  have o4 := o2.stay sa4 fun h => h
  repeat (first
    | ((first | apply Ops.op | apply Ops.op0 | apply Drs.bar | apply Drs.pure); case e => (intro k; simp (disch := omega) only [evs, Nat.reduceEqDiff, Nat.reduceLT, reduceIte, cond_true, cond_false, Nat.reduceAdd, f1, f3, f4, f5]; rfl))
    | ((first | apply Ops.g1 | apply Drs.g1); case e => (simp (disch := omega) only [evs, Nat.reduceEqDiff, Nat.reduceLT, reduceIte, f1, f3, f4, f5]))
    | ((first | apply Ops.g0t | apply Ops.g0f | apply Drs.g0t | apply Drs.g0f); case e => (simp (disch := omega) only [evs, Nat.reduceEqDiff, Nat.reduceLT, reduceIte, f1, f3, f4, f5]))
    | ((first | apply Ops.g0u | apply Drs.g0u); case e => (simp (disch := omega) only [evs, Nat.reduceEqDiff, Nat.reduceLT, reduceIte, f1, f3, f4, f5]))
    | apply Ok.seq
    | apply Ok.block
    | (apply Ok.ops (S := Sx))
    | (apply Ok.condT; case e => (simp (disch := omega) only [evs, Nat.reduceEqDiff, Nat.reduceLT, reduceIte, f1, f3, f4, f5]))
    | (apply Ok.condF; case e => (simp (disch := omega) only [evs, Nat.reduceEqDiff, Nat.reduceLT, reduceIte, f1, f3, f4, f5]))
    | ((first | apply Ops.nil | apply Drs.nil | apply Ok.skip | apply Ok.exit | apply Ok.ret); try simp only [Then_n, Then_e, Then_r, Out_n, Out_e, Out_r, Nat.reduceEqDiff, reduceIte])
    | (apply Ok.drs (S := Sx) hmix)
    )
  apply Ok.cond
  case hq => (simp (disch := omega) only [evs, Nat.reduceEqDiff, Nat.reduceLT, reduceIte, cond_true, cond_false, List.map_cons, List.map_nil, Nat.reduceAdd, f5]; rfl)
  case hb =>
    intro hc2
    have hc2 := of_decide_eq_false hc2
    have := hF a1 (by omega)
    rw [hr1] at this; cases this
  case ha =>
  intro hc2
  have hc2 := of_decide_eq_true hc2
  have haL : a < lvls M := by omega
  have hrdA : ∀ (g : H), Own g idd (D.map V.b) → ∀ i, i < lvls M → ∀ k : V → Bool, load1 g idd 0 (0 + i * 1) 6 k = k (.b (P.getD i false)) := fun g o i hi k => by
    rw [show 0 + i * 1 = i by omega, o.rdB (by rw [s6.len]; omega) (by omega), s6.at_ i hi]
  have ra := hrdA g4 o4 a haL
  repeat (first
    | ((first | apply Ops.op | apply Ops.op0 | apply Drs.bar | apply Drs.pure); case e => (intro k; simp (disch := omega) only [evs, Nat.reduceEqDiff, Nat.reduceLT, reduceIte, cond_true, cond_false, Nat.reduceAdd, f1, f3, f4, f5, ev_idxArr, arrIx, Int.toNat_natCast, natK_nn, ra]; rfl))
    | ((first | apply Ops.g1 | apply Drs.g1); case e => (simp (disch := omega) only [evs, Nat.reduceEqDiff, Nat.reduceLT, reduceIte, f1, f3, f4, f5, ev_idxArr, arrIx, Int.toNat_natCast, natK_nn, ra]))
    | ((first | apply Ops.g0t | apply Ops.g0f | apply Drs.g0t | apply Drs.g0f); case e => (simp (disch := omega) only [evs, Nat.reduceEqDiff, Nat.reduceLT, reduceIte, f1, f3, f4, f5, ev_idxArr, arrIx, Int.toNat_natCast, natK_nn, ra]))
    | ((first | apply Ops.g0u | apply Drs.g0u); case e => (simp (disch := omega) only [evs, Nat.reduceEqDiff, Nat.reduceLT, reduceIte, f1, f3, f4, f5, ev_idxArr, arrIx, Int.toNat_natCast, natK_nn, ra]))
    | apply Ok.seq
    | apply Ok.block
    | (apply Ok.ops (S := Sx))
    | (apply Ok.condT; case e => (simp (disch := omega) only [evs, Nat.reduceEqDiff, Nat.reduceLT, reduceIte, f1, f3, f4, f5, ev_idxArr, arrIx, Int.toNat_natCast, natK_nn, ra]))
    | (apply Ok.condF; case e => (simp (disch := omega) only [evs, Nat.reduceEqDiff, Nat.reduceLT, reduceIte, f1, f3, f4, f5, ev_idxArr, arrIx, Int.toNat_natCast, natK_nn, ra]))
    | ((first | apply Ops.nil | apply Drs.nil | apply Ok.skip | apply Ok.exit | apply Ok.ret); try simp only [Then_n, Then_e, Then_r, Out_n, Out_e, Out_r, Nat.reduceEqDiff, reduceIte])
    | (apply Ok.drs (S := Sx) hmix)
    )
  refine Ok.loop (fun m t g => ∃ q : Nat, q ≤ lvls M ∧ m = lvls M - q ∧ Stay nowhere g4 g ∧ get 1 t = .p id 0 0 1 ∧ get 3 t = w ∧ get 4 t = .p idd 0 0 6 ∧ get 5 t = .i .i64 (a : Int) ∧ get 6 t = .b (!(P.getD a false) && freeB M P a q) ∧ get 7 t = .i .i64 (q : Int)) ?_ (lvls M) _ _ ?_
  case refine_2 =>
    refine ⟨0, Nat.zero_le _, rfl, Stay.refl _ _, by simp (disch := omega) only [evs, Nat.reduceEqDiff, Nat.reduceLT, reduceIte, cond_true, cond_false, List.map_cons, List.map_nil, Nat.reduceAdd, f1], by simp (disch := omega) only [evs, Nat.reduceEqDiff, Nat.reduceLT, reduceIte, cond_true, cond_false, List.map_cons, List.map_nil, Nat.reduceAdd, f3], by simp (disch := omega) only [evs, Nat.reduceEqDiff, Nat.reduceLT, reduceIte, cond_true, cond_false, List.map_cons, List.map_nil, Nat.reduceAdd, f4], by simp (disch := omega) only [evs, Nat.reduceEqDiff, Nat.reduceLT, reduceIte, cond_true, cond_false, List.map_cons, List.map_nil, Nat.reduceAdd, f5], ?_, by simp (disch := omega) only [evs, Nat.reduceEqDiff, Nat.reduceLT, reduceIte, cond_true, cond_false, List.map_cons, List.map_nil, Nat.reduceAdd]⟩
    have : freeB M P a 0 = true := rfl
    rw [this, Bool.and_true]
    simp (disch := omega) only [evs, Nat.reduceEqDiff, Nat.reduceLT, reduceIte, cond_true, cond_false, List.map_cons, List.map_nil, Nat.reduceAdd]
  clear f1 f3 f4 f5
  rintro m t g5 ⟨q, hq', rfl, sq, f1, f3, f4, f5, f6, f7⟩
  have sg5 := sg4.trans sq
  have hrow5 := hrow.grow sg5 hlt
  have hM5 := hM1.grow sg5
  unfold l29_2
  repeat (first
    | ((first | apply Ops.op | apply Ops.op0 | apply Drs.bar | apply Drs.pure); case e => (intro k; simp (disch := omega) only [evs, Nat.reduceEqDiff, Nat.reduceLT, reduceIte, cond_true, cond_false, Nat.reduceAdd, f1, f3, f4, f5, f6, f7, hrow5.rdA]; rfl))
    | ((first | apply Ops.g1 | apply Drs.g1); case e => (simp (disch := omega) only [evs, Nat.reduceEqDiff, Nat.reduceLT, reduceIte, f1, f3, f4, f5, f6, f7, hrow5.rdA]))
    | ((first | apply Ops.g0t | apply Ops.g0f | apply Drs.g0t | apply Drs.g0f); case e => (simp (disch := omega) only [evs, Nat.reduceEqDiff, Nat.reduceLT, reduceIte, f1, f3, f4, f5, f6, f7, hrow5.rdA]))
    | ((first | apply Ops.g0u | apply Drs.g0u); case e => (simp (disch := omega) only [evs, Nat.reduceEqDiff, Nat.reduceLT, reduceIte, f1, f3, f4, f5, f6, f7, hrow5.rdA]))
    | apply Ok.seq
    | apply Ok.block
    | (apply Ok.ops (S := Sx))
    | (apply Ok.condT; case e => (simp (disch := omega) only [evs, Nat.reduceEqDiff, Nat.reduceLT, reduceIte, f1, f3, f4, f5, f6, f7, hrow5.rdA]))
    | (apply Ok.condF; case e => (simp (disch := omega) only [evs, Nat.reduceEqDiff, Nat.reduceLT, reduceIte, f1, f3, f4, f5, f6, f7, hrow5.rdA]))
    | ((first | apply Ops.nil | apply Drs.nil | apply Ok.skip | apply Ok.exit | apply Ok.ret); try simp only [Then_n, Then_e, Then_r, Out_n, Out_e, Out_r, Nat.reduceEqDiff, reduceIte])
    | (apply Ok.drs (S := Sx) hmix)
    )
  apply Ops.call
  case e => (simp (disch := omega) only [evs, Nat.reduceEqDiff, Nat.reduceLT, reduceIte, cond_true, cond_false, List.map_cons, List.map_nil, Nat.reduceAdd]; rfl)
  case hf => rw [hSx]; exact sr_rlevels hM5 hs hrl
  case k =>
  intro y g6 hy
  rw [hSx] at hy
  obtain ⟨rfl, s7⟩ := hy
  have sq6 := sq.trans s7
  have sg6 := sg4.trans sq6
  have hrow6 := hrow.grow sg6 hlt
  have hM6 := hM1.grow sg6
  have o6 := o4.stay sq6 fun h => h
  repeat (first
    | ((first | apply Ops.op | apply Ops.op0 | apply Drs.bar | apply Drs.pure); case e => (intro k; simp (disch := omega) only [evs, Nat.reduceEqDiff, Nat.reduceLT, reduceIte, cond_true, cond_false, Nat.reduceAdd, f1, f3, f4, f5, f6, f7]; rfl))
    | ((first | apply Ops.g1 | apply Drs.g1); case e => (simp (disch := omega) only [evs, Nat.reduceEqDiff, Nat.reduceLT, reduceIte, f1, f3, f4, f5, f6, f7]))
    | ((first | apply Ops.g0t | apply Ops.g0f | apply Drs.g0t | apply Drs.g0f); case e => (simp (disch := omega) only [evs, Nat.reduceEqDiff, Nat.reduceLT, reduceIte, f1, f3, f4, f5, f6, f7]))
    | ((first | apply Ops.g0u | apply Drs.g0u); case e => (simp (disch := omega) only [evs, Nat.reduceEqDiff, Nat.reduceLT, reduceIte, f1, f3, f4, f5, f6, f7]))
    | apply Ok.seq
    | apply Ok.block
    | (apply Ok.ops (S := Sx))
    | (apply Ok.condT; case e => (simp (disch := omega) only [evs, Nat.reduceEqDiff, Nat.reduceLT, reduceIte, f1, f3, f4, f5, f6, f7]))
    | (apply Ok.condF; case e => (simp (disch := omega) only [evs, Nat.reduceEqDiff, Nat.reduceLT, reduceIte, f1, f3, f4, f5, f6, f7]))
    | ((first | apply Ops.nil | apply Drs.nil | apply Ok.skip | apply Ok.exit | apply Ok.ret); try simp only [Then_n, Then_e, Then_r, Out_n, Out_e, Out_r, Nat.reduceEqDiff, reduceIte])
    | (apply Ok.drs (S := Sx) hmix)
    )
  apply Ok.cond
  case hq => (simp (disch := omega) only [evs, Nat.reduceEqDiff, Nat.reduceLT, reduceIte, cond_true, cond_false, List.map_cons, List.map_nil, Nat.reduceAdd, f7]; rfl)
  case hb =>
    intro hc3
    have hc3 := of_decide_eq_false hc3
    have : q = lvls M := by omega
    subst this
    have hrd : readyB M P a = (!(P.getD a false) && freeB M P a (lvls M)) := by unfold readyB; rw [q1]
    cases hfr : (!(P.getD a false) && freeB M P a (lvls M)) with
    | false =>
      repeat (first
        | ((first | apply Ops.op | apply Ops.op0 | apply Drs.bar | apply Drs.pure); case e => (intro k; simp (disch := omega) only [evs, Nat.reduceEqDiff, Nat.reduceLT, reduceIte, cond_true, cond_false, Nat.reduceAdd, f1, f3, f4, f5, f6, hfr]; rfl))
        | ((first | apply Ops.g1 | apply Drs.g1); case e => (simp (disch := omega) only [evs, Nat.reduceEqDiff, Nat.reduceLT, reduceIte, f1, f3, f4, f5, f6, hfr]))
        | ((first | apply Ops.g0t | apply Ops.g0f | apply Drs.g0t | apply Drs.g0f); case e => (simp (disch := omega) only [evs, Nat.reduceEqDiff, Nat.reduceLT, reduceIte, f1, f3, f4, f5, f6, hfr]))
        | ((first | apply Ops.g0u | apply Drs.g0u); case e => (simp (disch := omega) only [evs, Nat.reduceEqDiff, Nat.reduceLT, reduceIte, f1, f3, f4, f5, f6, hfr]))
        | apply Ok.seq
        | apply Ok.block
        | (apply Ok.ops (S := Sx))
        | (apply Ok.condT; case e => (simp (disch := omega) only [evs, Nat.reduceEqDiff, Nat.reduceLT, reduceIte, f1, f3, f4, f5, f6, hfr]))
        | (apply Ok.condF; case e => (simp (disch := omega) only [evs, Nat.reduceEqDiff, Nat.reduceLT, reduceIte, f1, f3, f4, f5, f6, hfr]))
        | ((first | apply Ops.nil | apply Drs.nil | apply Ok.skip | apply Ok.exit | apply Ok.ret); try simp only [Then_n, Then_e, Then_r, Out_n, Out_e, Out_r, Nat.reduceEqDiff, reduceIte])
        | (apply Ok.drs (S := Sx) hmix)
        )
      refine ⟨lvls M - (a + 1), by omega, a + 1, by omega, rfl, sa4.trans sq6, by simp (disch := omega) only [evs, Nat.reduceEqDiff, Nat.reduceLT, reduceIte, cond_true, cond_false, List.map_cons, List.map_nil, Nat.reduceAdd, f1], by simp (disch := omega) only [evs, Nat.reduceEqDiff, Nat.reduceLT, reduceIte, cond_true, cond_false, List.map_cons, List.map_nil, Nat.reduceAdd, f3], by simp (disch := omega) only [evs, Nat.reduceEqDiff, Nat.reduceLT, reduceIte, cond_true, cond_false, List.map_cons, List.map_nil, Nat.reduceAdd, f4], by simp (disch := omega) only [evs, Nat.reduceEqDiff, Nat.reduceLT, reduceIte, cond_true, cond_false, List.map_cons, List.map_nil, Nat.reduceAdd, f5, Int.natCast_add, Int.natCast_one], fun i hi => ?_⟩
      rcases Nat.lt_or_ge i a with h7 | h7
      · exact hF i h7
      · have : i = a := by omega
        subst this; rw [hrd, hfr]
    | true =>
      have hfa : firstR M P = some a := firstR_some (by omega) hF (by rw [hrd, hfr])
      have e1 : ordN M (r + 1) = ((ordN M r).1 ++ [(a : Int)], (ordN M r).2.set a true) := ordN_some (by rw [← hP]; exact hfa)
      repeat (first
        | ((first | apply Ops.op | apply Ops.op0 | apply Drs.bar | apply Drs.pure); case e => (intro k; simp (disch := omega) only [evs, Nat.reduceEqDiff, Nat.reduceLT, reduceIte, cond_true, cond_false, Nat.reduceAdd, f1, f3, f4, f5, f6, hfr, ev_idxArr, arrIx, Int.toNat_natCast, natK_nn]; rfl))
        | ((first | apply Ops.g1 | apply Drs.g1); case e => (simp (disch := omega) only [evs, Nat.reduceEqDiff, Nat.reduceLT, reduceIte, f1, f3, f4, f5, f6, hfr, ev_idxArr, arrIx, Int.toNat_natCast, natK_nn]))
        | ((first | apply Ops.g0t | apply Ops.g0f | apply Drs.g0t | apply Drs.g0f); case e => (simp (disch := omega) only [evs, Nat.reduceEqDiff, Nat.reduceLT, reduceIte, f1, f3, f4, f5, f6, hfr, ev_idxArr, arrIx, Int.toNat_natCast, natK_nn]))
        | ((first | apply Ops.g0u | apply Drs.g0u); case e => (simp (disch := omega) only [evs, Nat.reduceEqDiff, Nat.reduceLT, reduceIte, f1, f3, f4, f5, f6, hfr, ev_idxArr, arrIx, Int.toNat_natCast, natK_nn]))
        | apply Ok.seq
        | apply Ok.block
        | (apply Ok.ops (S := Sx))
        | (apply Ok.condT; case e => (simp (disch := omega) only [evs, Nat.reduceEqDiff, Nat.reduceLT, reduceIte, f1, f3, f4, f5, f6, hfr, ev_idxArr, arrIx, Int.toNat_natCast, natK_nn]))
        | (apply Ok.condF; case e => (simp (disch := omega) only [evs, Nat.reduceEqDiff, Nat.reduceLT, reduceIte, f1, f3, f4, f5, f6, hfr, ev_idxArr, arrIx, Int.toNat_natCast, natK_nn]))
        | ((first | apply Ops.nil | apply Drs.nil | apply Ok.skip | apply Ok.exit | apply Ok.ret); try simp only [Then_n, Then_e, Then_r, Out_n, Out_e, Out_r, Nat.reduceEqDiff, reduceIte])
        | (apply Ok.drs (S := Sx) hmix)
        )
      apply Ops.store (y := .b true) (xs := D.map V.b) (j := a) (id := idd) (fin := 6)
      case e1 => (simp (disch := omega) only [evs, Nat.reduceEqDiff, Nat.reduceLT, reduceIte, cond_true, cond_false, List.map_cons, List.map_nil, Nat.reduceAdd, Nat.zero_add, Nat.mul_one])
      case e2 => rfl
      case ho => exact o6
      case hj => omega
      case hfit => omega
      case h1 => rfl
      case k =>
      intro g7 o7 s8
      have hwid : ∀ i, isOf w i → ¬ (i = idd) := fun i hi e => by
        have := bw2.own i hi
        rw [e] at this; omega
      have bw6 := bw2.grow (sa4.trans sq6)
      have bw7 := Ib.stay' bw6 s8 hwid
      have sg7 : Stay nowhere h1 g7 := sg6.past' s8 fun i hi => by rw [hi, hidd]; exact Nat.le_refl _
      have fg7 := (s1.trans sg7).fl hf
      have hn7 : B.val h2.next ≤ B.val g7.next := Nat.le_trans hng2 (Nat.le_trans (sa4.trans sq6).next s8.next)
      repeat (first
        | ((first | apply Ops.op | apply Ops.op0 | apply Drs.bar | apply Drs.pure); case e => (intro k; simp (disch := omega) only [evs, Nat.reduceEqDiff, Nat.reduceLT, reduceIte, cond_true, cond_false, Nat.reduceAdd, f1, f3, f4, f5, f6]; rfl))
        | ((first | apply Ops.g1 | apply Drs.g1); case e => (simp (disch := omega) only [evs, Nat.reduceEqDiff, Nat.reduceLT, reduceIte, f1, f3, f4, f5, f6]))
        | ((first | apply Ops.g0t | apply Ops.g0f | apply Drs.g0t | apply Drs.g0f); case e => (simp (disch := omega) only [evs, Nat.reduceEqDiff, Nat.reduceLT, reduceIte, f1, f3, f4, f5, f6]))
        | ((first | apply Ops.g0u | apply Drs.g0u); case e => (simp (disch := omega) only [evs, Nat.reduceEqDiff, Nat.reduceLT, reduceIte, f1, f3, f4, f5, f6]))
        | apply Ok.seq
        | apply Ok.block
        | (apply Ok.ops (S := Sx))
        | (apply Ok.condT; case e => (simp (disch := omega) only [evs, Nat.reduceEqDiff, Nat.reduceLT, reduceIte, f1, f3, f4, f5, f6]))
        | (apply Ok.condF; case e => (simp (disch := omega) only [evs, Nat.reduceEqDiff, Nat.reduceLT, reduceIte, f1, f3, f4, f5, f6]))
        | ((first | apply Ops.nil | apply Drs.nil | apply Ok.skip | apply Ok.exit | apply Ok.ret); try simp only [Then_n, Then_e, Then_r, Out_n, Out_e, Out_r, Nat.reduceEqDiff, reduceIte])
        | (apply Ok.drs (S := Sx) hmix)
        )
      apply Ops.push
      case hnm => decide
      case hm => decide
      case e1 => (simp (disch := omega) only [evs, Nat.reduceEqDiff, Nat.reduceLT, reduceIte, cond_true, cond_false, List.map_cons, List.map_nil, Nat.reduceAdd, f3]; rfl)
      case e2 => (simp (disch := omega) only [evs, Nat.reduceEqDiff, Nat.reduceLT, reduceIte, cond_true, cond_false, List.map_cons, List.map_nil, Nat.reduceAdd, f5]; rfl)
      case a => exact bw7
      case hf => exact fg7
      case hlo => exact hn7
      case hl => omega
      case e3 => intro u; simp (disch := omega) only [evs, Nat.reduceEqDiff, Nat.reduceLT, reduceIte, cond_true, cond_false, List.map_cons, List.map_nil, Nat.reduceAdd, f3]
      case hs => intro e; cases e
      case k =>
      intro w' g8 u b' s9
      repeat (first
        | ((first | apply Ops.op | apply Ops.op0 | apply Drs.bar | apply Drs.pure); case e => (intro k; simp (disch := omega) only [evs, Nat.reduceEqDiff, Nat.reduceLT, reduceIte, cond_true, cond_false, Nat.reduceAdd, f1, f4]; rfl))
        | ((first | apply Ops.g1 | apply Drs.g1); case e => (simp (disch := omega) only [evs, Nat.reduceEqDiff, Nat.reduceLT, reduceIte, f1, f4]))
        | ((first | apply Ops.g0t | apply Ops.g0f | apply Drs.g0t | apply Drs.g0f); case e => (simp (disch := omega) only [evs, Nat.reduceEqDiff, Nat.reduceLT, reduceIte, f1, f4]))
        | ((first | apply Ops.g0u | apply Drs.g0u); case e => (simp (disch := omega) only [evs, Nat.reduceEqDiff, Nat.reduceLT, reduceIte, f1, f4]))
        | apply Ok.seq
        | apply Ok.block
        | (apply Ok.ops (S := Sx))
        | (apply Ok.condT; case e => (simp (disch := omega) only [evs, Nat.reduceEqDiff, Nat.reduceLT, reduceIte, f1, f4]))
        | (apply Ok.condF; case e => (simp (disch := omega) only [evs, Nat.reduceEqDiff, Nat.reduceLT, reduceIte, f1, f4]))
        | ((first | apply Ops.nil | apply Drs.nil | apply Ok.skip | apply Ok.exit | apply Ok.ret); try simp only [Then_n, Then_e, Then_r, Out_n, Out_e, Out_r, Nat.reduceEqDiff, reduceIte])
        | (apply Ok.drs (S := Sx) hmix)
        )
      refine ⟨lvls M - (r + 1), by omega, r + 1, D.set a true, w', by omega, rfl, ?_, Nat.le_trans hn7 s9.next, by simp (disch := omega) only [evs, Nat.reduceEqDiff, Nat.reduceLT, reduceIte, cond_true, cond_false, List.map_cons, List.map_nil, Nat.reduceAdd, f1], by simp (disch := omega) only [evs, Nat.reduceEqDiff, Nat.reduceLT, reduceIte, cond_true, cond_false, List.map_cons, List.map_nil, Nat.reduceAdd], by simp (disch := omega) only [evs, Nat.reduceEqDiff, Nat.reduceLT, reduceIte, cond_true, cond_false, List.map_cons, List.map_nil, Nat.reduceAdd, f4], ?_, ?_, ?_, ?_⟩
      · exact sg7.past' s9 fun i hi => Nat.le_trans s2.next (bw7.own i hi)
      · rw [e1]; exact b'
      · rw [e1, List.length_append, hlr]; rfl
      · have o8 := o7.stay s9 fun h => hwid _ h rfl
        rw [List.map_set]
        exact o8
      · rw [e1, ← hP]; exact s6.set haL (by omega) h6
  case ha =>
  intro hc3
  have hc3 := of_decide_eq_true hc3
  have hqL : q < lvls M := by omega
  have hsucc := freeA_succ (P := P) haL hqL
  have rq := hrdA g6 o6 q hqL
  cases hfr : (!(P.getD a false) && freeB M P a q) with
  | false =>
    repeat (first
      | ((first | apply Ops.op | apply Ops.op0 | apply Drs.bar | apply Drs.pure); case e => (intro k; simp (disch := omega) only [evs, Nat.reduceEqDiff, Nat.reduceLT, reduceIte, cond_true, cond_false, Nat.reduceAdd, f1, f3, f4, f5, f6, f7, hfr]; rfl))
      | ((first | apply Ops.g1 | apply Drs.g1); case e => (simp (disch := omega) only [evs, Nat.reduceEqDiff, Nat.reduceLT, reduceIte, f1, f3, f4, f5, f6, f7, hfr]))
      | ((first | apply Ops.g0t | apply Ops.g0f | apply Drs.g0t | apply Drs.g0f); case e => (simp (disch := omega) only [evs, Nat.reduceEqDiff, Nat.reduceLT, reduceIte, f1, f3, f4, f5, f6, f7, hfr]))
      | ((first | apply Ops.g0u | apply Drs.g0u); case e => (simp (disch := omega) only [evs, Nat.reduceEqDiff, Nat.reduceLT, reduceIte, f1, f3, f4, f5, f6, f7, hfr]))
      | apply Ok.seq
      | apply Ok.block
      | (apply Ok.ops (S := Sx))
      | (apply Ok.condT; case e => (simp (disch := omega) only [evs, Nat.reduceEqDiff, Nat.reduceLT, reduceIte, f1, f3, f4, f5, f6, f7, hfr]))
      | (apply Ok.condF; case e => (simp (disch := omega) only [evs, Nat.reduceEqDiff, Nat.reduceLT, reduceIte, f1, f3, f4, f5, f6, f7, hfr]))
      | ((first | apply Ops.nil | apply Drs.nil | apply Ok.skip | apply Ok.exit | apply Ok.ret); try simp only [Then_n, Then_e, Then_r, Out_n, Out_e, Out_r, Nat.reduceEqDiff, reduceIte])
      | (apply Ok.drs (S := Sx) hmix)
      )
    refine ⟨lvls M - (q + 1), by omega, q + 1, by omega, rfl, sq6, by simp (disch := omega) only [evs, Nat.reduceEqDiff, Nat.reduceLT, reduceIte, cond_true, cond_false, List.map_cons, List.map_nil, Nat.reduceAdd, f1], by simp (disch := omega) only [evs, Nat.reduceEqDiff, Nat.reduceLT, reduceIte, cond_true, cond_false, List.map_cons, List.map_nil, Nat.reduceAdd, f3], by simp (disch := omega) only [evs, Nat.reduceEqDiff, Nat.reduceLT, reduceIte, cond_true, cond_false, List.map_cons, List.map_nil, Nat.reduceAdd, f4], by simp (disch := omega) only [evs, Nat.reduceEqDiff, Nat.reduceLT, reduceIte, cond_true, cond_false, List.map_cons, List.map_nil, Nat.reduceAdd, f5], ?_, by simp (disch := omega) only [evs, Nat.reduceEqDiff, Nat.reduceLT, reduceIte, cond_true, cond_false, List.map_cons, List.map_nil, Nat.reduceAdd, f7, Int.natCast_add, Int.natCast_one]⟩
    rw [hsucc, ← Bool.and_assoc, hfr]
    simp (disch := omega) only [evs, Nat.reduceEqDiff, Nat.reduceLT, reduceIte, cond_true, cond_false, List.map_cons, List.map_nil, Nat.reduceAdd, Bool.false_and]
  | true =>
  cases hpq : P.getD q false with
  | true =>
    repeat (first
      | ((first | apply Ops.op | apply Ops.op0 | apply Drs.bar | apply Drs.pure); case e => (intro k; simp (disch := omega) only [evs, Nat.reduceEqDiff, Nat.reduceLT, reduceIte, cond_true, cond_false, Nat.reduceAdd, f1, f3, f4, f5, f6, f7, hfr, ev_idxArr, arrIx, Int.toNat_natCast, natK_nn, rq, hpq]; rfl))
      | ((first | apply Ops.g1 | apply Drs.g1); case e => (simp (disch := omega) only [evs, Nat.reduceEqDiff, Nat.reduceLT, reduceIte, f1, f3, f4, f5, f6, f7, hfr, ev_idxArr, arrIx, Int.toNat_natCast, natK_nn, rq, hpq]))
      | ((first | apply Ops.g0t | apply Ops.g0f | apply Drs.g0t | apply Drs.g0f); case e => (simp (disch := omega) only [evs, Nat.reduceEqDiff, Nat.reduceLT, reduceIte, f1, f3, f4, f5, f6, f7, hfr, ev_idxArr, arrIx, Int.toNat_natCast, natK_nn, rq, hpq]))
      | ((first | apply Ops.g0u | apply Drs.g0u); case e => (simp (disch := omega) only [evs, Nat.reduceEqDiff, Nat.reduceLT, reduceIte, f1, f3, f4, f5, f6, f7, hfr, ev_idxArr, arrIx, Int.toNat_natCast, natK_nn, rq, hpq]))
      | apply Ok.seq
      | apply Ok.block
      | (apply Ok.ops (S := Sx))
      | (apply Ok.condT; case e => (simp (disch := omega) only [evs, Nat.reduceEqDiff, Nat.reduceLT, reduceIte, f1, f3, f4, f5, f6, f7, hfr, ev_idxArr, arrIx, Int.toNat_natCast, natK_nn, rq, hpq]))
      | (apply Ok.condF; case e => (simp (disch := omega) only [evs, Nat.reduceEqDiff, Nat.reduceLT, reduceIte, f1, f3, f4, f5, f6, f7, hfr, ev_idxArr, arrIx, Int.toNat_natCast, natK_nn, rq, hpq]))
      | ((first | apply Ops.nil | apply Drs.nil | apply Ok.skip | apply Ok.exit | apply Ok.ret); try simp only [Then_n, Then_e, Then_r, Out_n, Out_e, Out_r, Nat.reduceEqDiff, reduceIte])
      | (apply Ok.drs (S := Sx) hmix)
      )
    refine ⟨lvls M - (q + 1), by omega, q + 1, by omega, rfl, sq6, by simp (disch := omega) only [evs, Nat.reduceEqDiff, Nat.reduceLT, reduceIte, cond_true, cond_false, List.map_cons, List.map_nil, Nat.reduceAdd, f1], by simp (disch := omega) only [evs, Nat.reduceEqDiff, Nat.reduceLT, reduceIte, cond_true, cond_false, List.map_cons, List.map_nil, Nat.reduceAdd, f3], by simp (disch := omega) only [evs, Nat.reduceEqDiff, Nat.reduceLT, reduceIte, cond_true, cond_false, List.map_cons, List.map_nil, Nat.reduceAdd, f4], by simp (disch := omega) only [evs, Nat.reduceEqDiff, Nat.reduceLT, reduceIte, cond_true, cond_false, List.map_cons, List.map_nil, Nat.reduceAdd, f5], ?_, by simp (disch := omega) only [evs, Nat.reduceEqDiff, Nat.reduceLT, reduceIte, cond_true, cond_false, List.map_cons, List.map_nil, Nat.reduceAdd, f7, Int.natCast_add, Int.natCast_one]⟩
    rw [hsucc, ← Bool.and_assoc, hfr, hpq]
    simp (disch := omega) only [evs, Nat.reduceEqDiff, Nat.reduceLT, reduceIte, cond_true, cond_false, List.map_cons, List.map_nil, Nat.reduceAdd, Bool.true_and, Bool.true_or]
  | false =>
  repeat (first
    | ((first | apply Ops.op | apply Ops.op0 | apply Drs.bar | apply Drs.pure); case e => (intro k; simp (disch := omega) only [evs, Nat.reduceEqDiff, Nat.reduceLT, reduceIte, cond_true, cond_false, Nat.reduceAdd, f1, f3, f4, f5, f6, f7, hfr, ev_idxArr, arrIx, Int.toNat_natCast, natK_nn, rq, hpq, hrow6.rdA]; rfl))
    | ((first | apply Ops.g1 | apply Drs.g1); case e => (simp (disch := omega) only [evs, Nat.reduceEqDiff, Nat.reduceLT, reduceIte, f1, f3, f4, f5, f6, f7, hfr, ev_idxArr, arrIx, Int.toNat_natCast, natK_nn, rq, hpq, hrow6.rdA]))
    | ((first | apply Ops.g0t | apply Ops.g0f | apply Drs.g0t | apply Drs.g0f); case e => (simp (disch := omega) only [evs, Nat.reduceEqDiff, Nat.reduceLT, reduceIte, f1, f3, f4, f5, f6, f7, hfr, ev_idxArr, arrIx, Int.toNat_natCast, natK_nn, rq, hpq, hrow6.rdA]))
    | ((first | apply Ops.g0u | apply Drs.g0u); case e => (simp (disch := omega) only [evs, Nat.reduceEqDiff, Nat.reduceLT, reduceIte, f1, f3, f4, f5, f6, f7, hfr, ev_idxArr, arrIx, Int.toNat_natCast, natK_nn, rq, hpq, hrow6.rdA]))
    | apply Ok.seq
    | apply Ok.block
    | (apply Ok.ops (S := Sx))
    | (apply Ok.condT; case e => (simp (disch := omega) only [evs, Nat.reduceEqDiff, Nat.reduceLT, reduceIte, f1, f3, f4, f5, f6, f7, hfr, ev_idxArr, arrIx, Int.toNat_natCast, natK_nn, rq, hpq, hrow6.rdA]))
    | (apply Ok.condF; case e => (simp (disch := omega) only [evs, Nat.reduceEqDiff, Nat.reduceLT, reduceIte, f1, f3, f4, f5, f6, f7, hfr, ev_idxArr, arrIx, Int.toNat_natCast, natK_nn, rq, hpq, hrow6.rdA]))
    | ((first | apply Ops.nil | apply Drs.nil | apply Ok.skip | apply Ok.exit | apply Ok.ret); try simp only [Then_n, Then_e, Then_r, Out_n, Out_e, Out_r, Nat.reduceEqDiff, reduceIte])
    | (apply Ok.drs (S := Sx) hmix)
    )
  apply Ops.call
  case e => (simp (disch := omega) only [evs, Nat.reduceEqDiff, Nat.reduceLT, reduceIte, cond_true, cond_false, List.map_cons, List.map_nil, Nat.reduceAdd]; rfl)
  case hf => rw [hSx]; exact sr_rabove hM6 hs hrl a q
  case k =>
  intro y g7 hy
  rw [hSx] at hy
  obtain ⟨rfl, s8⟩ := hy _ _ rfl
  repeat (first
    | ((first | apply Ops.op | apply Ops.op0 | apply Drs.bar | apply Drs.pure); case e => (intro k; simp (disch := omega) only [evs, Nat.reduceEqDiff, Nat.reduceLT, reduceIte, cond_true, cond_false, Nat.reduceAdd, f1, f3, f4, f5, f6, f7, hfr, hpq]; rfl))
    | ((first | apply Ops.g1 | apply Drs.g1); case e => (simp (disch := omega) only [evs, Nat.reduceEqDiff, Nat.reduceLT, reduceIte, f1, f3, f4, f5, f6, f7, hfr, hpq]))
    | ((first | apply Ops.g0t | apply Ops.g0f | apply Drs.g0t | apply Drs.g0f); case e => (simp (disch := omega) only [evs, Nat.reduceEqDiff, Nat.reduceLT, reduceIte, f1, f3, f4, f5, f6, f7, hfr, hpq]))
    | ((first | apply Ops.g0u | apply Drs.g0u); case e => (simp (disch := omega) only [evs, Nat.reduceEqDiff, Nat.reduceLT, reduceIte, f1, f3, f4, f5, f6, f7, hfr, hpq]))
    | apply Ok.seq
    | apply Ok.block
    | (apply Ok.ops (S := Sx))
    | (apply Ok.condT; case e => (simp (disch := omega) only [evs, Nat.reduceEqDiff, Nat.reduceLT, reduceIte, f1, f3, f4, f5, f6, f7, hfr, hpq]))
    | (apply Ok.condF; case e => (simp (disch := omega) only [evs, Nat.reduceEqDiff, Nat.reduceLT, reduceIte, f1, f3, f4, f5, f6, f7, hfr, hpq]))
    | ((first | apply Ops.nil | apply Drs.nil | apply Ok.skip | apply Ok.exit | apply Ok.ret); try simp only [Then_n, Then_e, Then_r, Out_n, Out_e, Out_r, Nat.reduceEqDiff, reduceIte])
    | (apply Ok.drs (S := Sx) hmix)
    )
  refine ⟨lvls M - (q + 1), by omega, q + 1, by omega, rfl, sq6.trans s8, by simp (disch := omega) only [evs, Nat.reduceEqDiff, Nat.reduceLT, reduceIte, cond_true, cond_false, List.map_cons, List.map_nil, Nat.reduceAdd, f1], by simp (disch := omega) only [evs, Nat.reduceEqDiff, Nat.reduceLT, reduceIte, cond_true, cond_false, List.map_cons, List.map_nil, Nat.reduceAdd, f3], by simp (disch := omega) only [evs, Nat.reduceEqDiff, Nat.reduceLT, reduceIte, cond_true, cond_false, List.map_cons, List.map_nil, Nat.reduceAdd, f4], by simp (disch := omega) only [evs, Nat.reduceEqDiff, Nat.reduceLT, reduceIte, cond_true, cond_false, List.map_cons, List.map_nil, Nat.reduceAdd, f5], ?_, by simp (disch := omega) only [evs, Nat.reduceEqDiff, Nat.reduceLT, reduceIte, cond_true, cond_false, List.map_cons, List.map_nil, Nat.reduceAdd, f7, Int.natCast_add, Int.natCast_one]⟩
  rw [hsucc, ← Bool.and_assoc, hfr, hpq]
  simp (disch := omega) only [evs, Nat.reduceEqDiff, Nat.reduceLT, reduceIte, cond_true, cond_false, List.map_cons, List.map_nil, Nat.reduceAdd, Bool.true_and, Bool.false_or]
end Go.Proofs.Ytpnflehemjbemaa
