/- The function Covers of package lattice, by what it computes. No condition. -/
import Derived.Test.YtpnflehemjbemaaLat9
import Derived.Test.YtpnflehemjbemaaIrLat4
set_option maxRecDepth 100000
set_option maxHeartbeats 8000000
set_option linter.all false
namespace Go.Proofs.Ytpnflehemjbemaa
open Go Go.Ev

/-- none of L but b is above b -/
def topB (M : Mt) (L : List Int) (b : Int) (n : Nat) : Bool := (L.take n).all fun c => decide (c = b) || !at2 M c.toNat b.toNat
theorem topB_succ (M : Mt) (L : List Int) (b : Int) {n : Nat} (h : n < L.length) : topB M L b (n + 1) = (topB M L b n && (decide (L.getD n 0 = b) || !at2 M (L.getD n 0).toNat b.toNat)) := by
  unfold topB
  rw [List.take_succ_eq_append_getElem h, List.all_append]
  simp [List.getD, h]
def covers0 (M : Mt) (L : List Int) (n : Nat) : List Int := (L.take n).filter fun b => topB M L b L.length
theorem covers0_succ (M : Mt) (L : List Int) {n : Nat} (h : n < L.length) : covers0 M L (n + 1) = covers0 M L n ++ (if topB M L (L.getD n 0) L.length = true then [L.getD n 0] else []) := by
  unfold covers0
  rw [List.take_succ_eq_append_getElem h, List.filter_append]
  congr 1
  have e : L.getD n 0 = L[n] := by simp [List.getD, h]
  rw [e]
  by_cases hb : topB M L L[n] L.length = true
  · rw [if_pos hb]; simp [List.filter_cons, hb]
  · rw [if_neg hb]; simp [List.filter_cons, hb]
theorem covers0_len (M : Mt) (L : List Int) (n : Nat) : (covers0 M L n).length ≤ L.length := by
  unfold covers0; exact Nat.le_trans (List.length_filter_le _ _) (by simp; omega)
def coversL (M : Mt) (a : Int) : List Int := covers0 M (belowL M a) (belowL M a).length
/-- what is below is a level -/
theorem belowL_mem {M : Mt} {a : Int} {i : Nat} (h : i < (belowL M a).length) : ∃ b : Nat, (belowL M a).getD i 0 = (b : Int) ∧ b < M.length ∧ 0 < lvls M := by
  have hm : (belowL M a).getD i 0 ∈ belowL M a := by simp [List.getD, h]
  unfold belowL at hm h ⊢
  split at hm
  · rename_i ha
    rw [if_pos ha] at h
    unfold below0 at hm
    rw [List.mem_map] at hm
    obtain ⟨b, hb, e⟩ := hm
    have := (List.mem_filter.1 hb).1
    have ha' := of_decide_eq_true ha
    rw [if_pos ha]
    exact ⟨b, e.symm, by simpa using this, by omega⟩
  · rename_i ha; rw [if_neg ha] at h; simp at h
theorem belowL_len (M : Mt) (a : Int) : (belowL M a).length ≤ M.length := by
  unfold belowL; split
  · exact below0_len _ _ _
  · simp

theorem covers_ok {h : H} {v : V} {M : Mt} (hM : Mx h v M) (hs : M.length ≤ 1000000) (hf : B.val h.floor ≤ B.val h.next) (a : Int) : FnOk Try.prog 26 [.a [v], .i .i64 a] h fun y h' => Ib h' (B.val h.next) 3 y (coversL M a) ∧ Stay nowhere h h' := by
  refine fn_run c26 (by intro hb; cases hb) (by simp) (by simp) ?_
  simp only [slotsF, Nat.reduceAdd]
  unfold b26
  obtain ⟨S1, hS1⟩ : ∃ S : Ev.Spec, S = fun f _ hh y h' => Ib h' (B.val hh.next) 3 y (belowL M a) ∧ Stay nowhere hh h' := ⟨_, rfl⟩
  repeat (first
    | ((first | apply Ops.op | apply Ops.op0 | apply Drs.bar | apply Drs.pure); case e => (intro k; simp (disch := omega) only [evs, Nat.reduceEqDiff, Nat.reduceLT, reduceIte, cond_true, cond_false, Nat.reduceAdd]; rfl))
    | ((first | apply Ops.g1 | apply Drs.g1); case e => (simp (disch := omega) only [evs, Nat.reduceEqDiff, Nat.reduceLT, reduceIte]))
    | ((first | apply Ops.g0t | apply Ops.g0f | apply Drs.g0t | apply Drs.g0f); case e => (simp (disch := omega) only [evs, Nat.reduceEqDiff, Nat.reduceLT, reduceIte]))
    | ((first | apply Ops.g0u | apply Drs.g0u); case e => (simp (disch := omega) only [evs, Nat.reduceEqDiff, Nat.reduceLT, reduceIte]))
    | apply Ok.seq
    | apply Ok.block
    | (apply Ok.ops (S := Sp))
    | (apply Ok.condT; case e => (simp (disch := omega) only [evs, Nat.reduceEqDiff, Nat.reduceLT, reduceIte]))
    | (apply Ok.condF; case e => (simp (disch := omega) only [evs, Nat.reduceEqDiff, Nat.reduceLT, reduceIte]))
    | ((first | apply Ops.nil | apply Drs.nil | apply Ok.skip | apply Ok.exit | apply Ok.ret); try simp only [Then_n, Then_e, Then_r, Out_n, Out_e, Out_r, Nat.reduceEqDiff, reduceIte])
    | (apply Ok.drs (S := Sp) hmix)
    )
  apply Ops.box1
  case e => (simp (disch := omega) only [evs, Nat.reduceEqDiff, Nat.reduceLT, reduceIte, cond_true, cond_false, List.map_cons, List.map_nil, Nat.reduceAdd]; rfl)
  case k =>
  intro h1 id2 s1 hlt hge hrow
  have hM1 := hM.grow s1
  repeat (first
    | ((first | apply Ops.op | apply Ops.op0 | apply Drs.bar | apply Drs.pure); case e => (intro k; simp (disch := omega) only [evs, Nat.reduceEqDiff, Nat.reduceLT, reduceIte, cond_true, cond_false, Nat.reduceAdd, hrow.rdA]; rfl))
    | ((first | apply Ops.g1 | apply Drs.g1); case e => (simp (disch := omega) only [evs, Nat.reduceEqDiff, Nat.reduceLT, reduceIte, hrow.rdA]))
    | ((first | apply Ops.g0t | apply Ops.g0f | apply Drs.g0t | apply Drs.g0f); case e => (simp (disch := omega) only [evs, Nat.reduceEqDiff, Nat.reduceLT, reduceIte, hrow.rdA]))
    | ((first | apply Ops.g0u | apply Drs.g0u); case e => (simp (disch := omega) only [evs, Nat.reduceEqDiff, Nat.reduceLT, reduceIte, hrow.rdA]))
    | apply Ok.seq
    | apply Ok.block
    | (apply Ok.ops (S := S1))
    | (apply Ok.condT; case e => (simp (disch := omega) only [evs, Nat.reduceEqDiff, Nat.reduceLT, reduceIte, hrow.rdA]))
    | (apply Ok.condF; case e => (simp (disch := omega) only [evs, Nat.reduceEqDiff, Nat.reduceLT, reduceIte, hrow.rdA]))
    | ((first | apply Ops.nil | apply Drs.nil | apply Ok.skip | apply Ok.exit | apply Ok.ret); try simp only [Then_n, Then_e, Then_r, Out_n, Out_e, Out_r, Nat.reduceEqDiff, reduceIte])
    | (apply Ok.drs (S := S1) hmix)
    )
  apply Ops.call
  case e => (simp (disch := omega) only [evs, Nat.reduceEqDiff, Nat.reduceLT, reduceIte, cond_true, cond_false, List.map_cons, List.map_nil, Nat.reduceAdd]; rfl)
  case hf => rw [hS1]; exact below_ok hM1 hs (s1.fl hf) a
  case k =>
  rw [hS1]
  rintro y h2 ⟨hb2, s2⟩
  clear hS1 S1
  have st := s1.trans s2
  have hrow2 := hrow.grow s2 hlt
  have hlt2 := Nat.lt_of_lt_of_le hlt s2.next
  have hM2 := hM1.grow s2
  have hL2 := hb2.il
  have hLl := belowL_len M a
  have hmem := fun (i : Nat) (hi : i < (belowL M a).length) => belowL_mem hi
  unfold coversL
  generalize belowL M a = L at hb2 hL2 hLl hmem ⊢
  repeat (first
    | ((first | apply Ops.op | apply Ops.op0 | apply Drs.bar | apply Drs.pure); case e => (intro k; simp (disch := omega) only [evs, Nat.reduceEqDiff, Nat.reduceLT, reduceIte, cond_true, cond_false, Nat.reduceAdd, hL2.len]; rfl))
    | ((first | apply Ops.g1 | apply Drs.g1); case e => (simp (disch := omega) only [evs, Nat.reduceEqDiff, Nat.reduceLT, reduceIte, hL2.len]))
    | ((first | apply Ops.g0t | apply Ops.g0f | apply Drs.g0t | apply Drs.g0f); case e => (simp (disch := omega) only [evs, Nat.reduceEqDiff, Nat.reduceLT, reduceIte, hL2.len]))
    | ((first | apply Ops.g0u | apply Drs.g0u); case e => (simp (disch := omega) only [evs, Nat.reduceEqDiff, Nat.reduceLT, reduceIte, hL2.len]))
    | apply Ok.seq
    | apply Ok.block
    | (apply Ok.ops (S := Sp))
    | (apply Ok.condT; case e => (simp (disch := omega) only [evs, Nat.reduceEqDiff, Nat.reduceLT, reduceIte, hL2.len]))
    | (apply Ok.condF; case e => (simp (disch := omega) only [evs, Nat.reduceEqDiff, Nat.reduceLT, reduceIte, hL2.len]))
    | ((first | apply Ops.nil | apply Drs.nil | apply Ok.skip | apply Ok.exit | apply Ok.ret); try simp only [Then_n, Then_e, Then_r, Out_n, Out_e, Out_r, Nat.reduceEqDiff, reduceIte])
    | (apply Ok.drs (S := Sp) hmix)
    )
  refine Ok.loop (fun m t g => ∃ (r : Nat) (w : V), r ≤ L.length ∧ m = L.length - r ∧ Stay nowhere h2 g ∧ get 2 t = .p id2 0 0 1 ∧ get 5 t = y ∧ get 6 t = w ∧ get 14 t = y ∧ get 15 t = .i .i64 (L.length : Int) ∧ get 16 t = .i .i64 (r : Int) ∧ Ib g (B.val h2.next) 3 w (covers0 M L r)) ?_ L.length _ _ ?_
  · rintro m t g ⟨r, w, hr', rfl, sg, f2, f5, f6, f14, f15, f16, bw⟩
    have hrowg := hrow2.grow sg hlt2
    have hMg := hM2.grow sg
    have hLg := hL2.grow sg
    have fg := (st.trans sg).fl hf
    have cl := covers0_len M L r
    unfold l26_0
    repeat (first
      | ((first | apply Ops.op | apply Ops.op0 | apply Drs.bar | apply Drs.pure); case e => (intro k; simp (disch := omega) only [evs, Nat.reduceEqDiff, Nat.reduceLT, reduceIte, cond_true, cond_false, Nat.reduceAdd, f2, f5, f6, f14, f15, f16]; rfl))
      | ((first | apply Ops.g1 | apply Drs.g1); case e => (simp (disch := omega) only [evs, Nat.reduceEqDiff, Nat.reduceLT, reduceIte, f2, f5, f6, f14, f15, f16]))
      | ((first | apply Ops.g0t | apply Ops.g0f | apply Drs.g0t | apply Drs.g0f); case e => (simp (disch := omega) only [evs, Nat.reduceEqDiff, Nat.reduceLT, reduceIte, f2, f5, f6, f14, f15, f16]))
      | ((first | apply Ops.g0u | apply Drs.g0u); case e => (simp (disch := omega) only [evs, Nat.reduceEqDiff, Nat.reduceLT, reduceIte, f2, f5, f6, f14, f15, f16]))
      | apply Ok.seq
      | apply Ok.block
      | (apply Ok.ops (S := Sp))
      | (apply Ok.condT; case e => (simp (disch := omega) only [evs, Nat.reduceEqDiff, Nat.reduceLT, reduceIte, f2, f5, f6, f14, f15, f16]))
      | (apply Ok.condF; case e => (simp (disch := omega) only [evs, Nat.reduceEqDiff, Nat.reduceLT, reduceIte, f2, f5, f6, f14, f15, f16]))
      | ((first | apply Ops.nil | apply Drs.nil | apply Ok.skip | apply Ok.exit | apply Ok.ret); try simp only [Then_n, Then_e, Then_r, Out_n, Out_e, Out_r, Nat.reduceEqDiff, reduceIte])
      | (apply Ok.drs (S := Sp) hmix)
      )
    apply Ok.cond
    case hq => (simp (disch := omega) only [evs, Nat.reduceEqDiff, Nat.reduceLT, reduceIte, cond_true, cond_false, List.map_cons, List.map_nil, Nat.reduceAdd, f15, f16]; rfl)
    case hb =>
      intro hc
      have hc := of_decide_eq_false hc
      have : r = L.length := by omega
      subst this
      repeat (first
        | ((first | apply Ops.op | apply Ops.op0 | apply Drs.bar | apply Drs.pure); case e => (intro k; simp (disch := omega) only [evs, Nat.reduceEqDiff, Nat.reduceLT, reduceIte, cond_true, cond_false, Nat.reduceAdd, f6]; rfl))
        | ((first | apply Ops.g1 | apply Drs.g1); case e => (simp (disch := omega) only [evs, Nat.reduceEqDiff, Nat.reduceLT, reduceIte, f6]))
        | ((first | apply Ops.g0t | apply Ops.g0f | apply Drs.g0t | apply Drs.g0f); case e => (simp (disch := omega) only [evs, Nat.reduceEqDiff, Nat.reduceLT, reduceIte, f6]))
        | ((first | apply Ops.g0u | apply Drs.g0u); case e => (simp (disch := omega) only [evs, Nat.reduceEqDiff, Nat.reduceLT, reduceIte, f6]))
        | apply Ok.seq
        | apply Ok.block
        | (apply Ok.ops (S := Sp))
        | (apply Ok.condT; case e => (simp (disch := omega) only [evs, Nat.reduceEqDiff, Nat.reduceLT, reduceIte, f6]))
        | (apply Ok.condF; case e => (simp (disch := omega) only [evs, Nat.reduceEqDiff, Nat.reduceLT, reduceIte, f6]))
        | ((first | apply Ops.nil | apply Drs.nil | apply Ok.skip | apply Ok.exit | apply Ok.ret); try simp only [Then_n, Then_e, Then_r, Out_n, Out_e, Out_r, Nat.reduceEqDiff, reduceIte])
        | (apply Ok.drs (S := Sp) hmix)
        )
      refine ⟨_, fun k => res_1 _ _ _ k, ?_⟩
      simp (disch := omega) only [evs, Nat.reduceEqDiff, Nat.reduceLT, reduceIte, cond_true, cond_false, List.map_cons, List.map_nil, Nat.reduceAdd, one_1]
      exact ⟨⟨bw.buf, fun i hi => Nat.le_trans st.next (bw.own i hi)⟩, st.trans sg⟩
    case ha =>
      intro hc
      have hc := of_decide_eq_true hc
      obtain ⟨b, hb, hbM, _⟩ := hmem r (by omega)
      repeat (first
        | ((first | apply Ops.op | apply Ops.op0 | apply Drs.bar | apply Drs.pure); case e => (intro k; simp (disch := omega) only [evs, Nat.reduceEqDiff, Nat.reduceLT, reduceIte, cond_true, cond_false, Nat.reduceAdd, f2, f5, f6, f14, f15, f16, hLg.idx, hLg.rd, hLg.len, hb]; rfl))
        | ((first | apply Ops.g1 | apply Drs.g1); case e => (simp (disch := omega) only [evs, Nat.reduceEqDiff, Nat.reduceLT, reduceIte, f2, f5, f6, f14, f15, f16, hLg.idx, hLg.rd, hLg.len, hb]))
        | ((first | apply Ops.g0t | apply Ops.g0f | apply Drs.g0t | apply Drs.g0f); case e => (simp (disch := omega) only [evs, Nat.reduceEqDiff, Nat.reduceLT, reduceIte, f2, f5, f6, f14, f15, f16, hLg.idx, hLg.rd, hLg.len, hb]))
        | ((first | apply Ops.g0u | apply Drs.g0u); case e => (simp (disch := omega) only [evs, Nat.reduceEqDiff, Nat.reduceLT, reduceIte, f2, f5, f6, f14, f15, f16, hLg.idx, hLg.rd, hLg.len, hb]))
        | apply Ok.seq
        | apply Ok.block
        | (apply Ok.ops (S := Sp))
        | (apply Ok.condT; case e => (simp (disch := omega) only [evs, Nat.reduceEqDiff, Nat.reduceLT, reduceIte, f2, f5, f6, f14, f15, f16, hLg.idx, hLg.rd, hLg.len, hb]))
        | (apply Ok.condF; case e => (simp (disch := omega) only [evs, Nat.reduceEqDiff, Nat.reduceLT, reduceIte, f2, f5, f6, f14, f15, f16, hLg.idx, hLg.rd, hLg.len, hb]))
        | ((first | apply Ops.nil | apply Drs.nil | apply Ok.skip | apply Ok.exit | apply Ok.ret); try simp only [Then_n, Then_e, Then_r, Out_n, Out_e, Out_r, Nat.reduceEqDiff, reduceIte])
        | (apply Ok.drs (S := Sp) hmix)
        )
      refine Ok.loop (fun m t g' => ∃ q : Nat, q ≤ L.length ∧ m = L.length - q ∧ g = g' ∧ get 2 t = .p id2 0 0 1 ∧ get 5 t = y ∧ get 6 t = w ∧ get 8 t = .i .i64 (b : Int) ∧ get 14 t = y ∧ get 15 t = .i .i64 (L.length : Int) ∧ get 16 t = .i .i64 (r : Int) ∧
        get 20 t = y ∧ get 21 t = .i .i64 (L.length : Int) ∧ get 22 t = .i .i64 (q : Int) ∧ topB M L (b : Int) q = true) ?_ L.length _ _ ?_
      · rintro m t _ ⟨q, hq, rfl, rfl, e2, e5, e6, e8, e14, e15, e16, e20, e21, e22, hT⟩
        unfold l26_1
        repeat (first
          | ((first | apply Ops.op | apply Ops.op0 | apply Drs.bar | apply Drs.pure); case e => (intro k; simp (disch := omega) only [evs, Nat.reduceEqDiff, Nat.reduceLT, reduceIte, cond_true, cond_false, Nat.reduceAdd, e2, e5, e6, e8, e14, e15, e16, e20, e21, e22]; rfl))
          | ((first | apply Ops.g1 | apply Drs.g1); case e => (simp (disch := omega) only [evs, Nat.reduceEqDiff, Nat.reduceLT, reduceIte, e2, e5, e6, e8, e14, e15, e16, e20, e21, e22]))
          | ((first | apply Ops.g0t | apply Ops.g0f | apply Drs.g0t | apply Drs.g0f); case e => (simp (disch := omega) only [evs, Nat.reduceEqDiff, Nat.reduceLT, reduceIte, e2, e5, e6, e8, e14, e15, e16, e20, e21, e22]))
          | ((first | apply Ops.g0u | apply Drs.g0u); case e => (simp (disch := omega) only [evs, Nat.reduceEqDiff, Nat.reduceLT, reduceIte, e2, e5, e6, e8, e14, e15, e16, e20, e21, e22]))
          | apply Ok.seq
          | apply Ok.block
          | (apply Ok.ops (S := Sp))
          | (apply Ok.condT; case e => (simp (disch := omega) only [evs, Nat.reduceEqDiff, Nat.reduceLT, reduceIte, e2, e5, e6, e8, e14, e15, e16, e20, e21, e22]))
          | (apply Ok.condF; case e => (simp (disch := omega) only [evs, Nat.reduceEqDiff, Nat.reduceLT, reduceIte, e2, e5, e6, e8, e14, e15, e16, e20, e21, e22]))
          | ((first | apply Ops.nil | apply Drs.nil | apply Ok.skip | apply Ok.exit | apply Ok.ret); try simp only [Then_n, Then_e, Then_r, Out_n, Out_e, Out_r, Nat.reduceEqDiff, reduceIte])
          | (apply Ok.drs (S := Sp) hmix)
          )
        apply Ok.cond
        case hq => (simp (disch := omega) only [evs, Nat.reduceEqDiff, Nat.reduceLT, reduceIte, cond_true, cond_false, List.map_cons, List.map_nil, Nat.reduceAdd, e21, e22]; rfl)
        case hb =>
          intro hc2
          have hc2 := of_decide_eq_false hc2
          have : q = L.length := by omega
          subst this
          repeat (first
            | ((first | apply Ops.op | apply Ops.op0 | apply Drs.bar | apply Drs.pure); case e => (intro k; simp (disch := omega) only [evs, Nat.reduceEqDiff, Nat.reduceLT, reduceIte, cond_true, cond_false, Nat.reduceAdd, e2, e5, e6, e8, e14, e15, e16, e20, e21, e22]; rfl))
            | ((first | apply Ops.g1 | apply Drs.g1); case e => (simp (disch := omega) only [evs, Nat.reduceEqDiff, Nat.reduceLT, reduceIte, e2, e5, e6, e8, e14, e15, e16, e20, e21, e22]))
            | ((first | apply Ops.g0t | apply Ops.g0f | apply Drs.g0t | apply Drs.g0f); case e => (simp (disch := omega) only [evs, Nat.reduceEqDiff, Nat.reduceLT, reduceIte, e2, e5, e6, e8, e14, e15, e16, e20, e21, e22]))
            | ((first | apply Ops.g0u | apply Drs.g0u); case e => (simp (disch := omega) only [evs, Nat.reduceEqDiff, Nat.reduceLT, reduceIte, e2, e5, e6, e8, e14, e15, e16, e20, e21, e22]))
            | apply Ok.seq
            | apply Ok.block
            | (apply Ok.ops (S := Sp))
            | (apply Ok.condT; case e => (simp (disch := omega) only [evs, Nat.reduceEqDiff, Nat.reduceLT, reduceIte, e2, e5, e6, e8, e14, e15, e16, e20, e21, e22]))
            | (apply Ok.condF; case e => (simp (disch := omega) only [evs, Nat.reduceEqDiff, Nat.reduceLT, reduceIte, e2, e5, e6, e8, e14, e15, e16, e20, e21, e22]))
            | ((first | apply Ops.nil | apply Drs.nil | apply Ok.skip | apply Ok.exit | apply Ok.ret); try simp only [Then_n, Then_e, Then_r, Out_n, Out_e, Out_r, Nat.reduceEqDiff, reduceIte])
            | (apply Ok.drs (S := Sp) hmix)
            )
          apply Ops.push
          case hnm => decide
          case hm => decide
          case e1 => (simp (disch := omega) only [evs, Nat.reduceEqDiff, Nat.reduceLT, reduceIte, cond_true, cond_false, List.map_cons, List.map_nil, Nat.reduceAdd, e6]; rfl)
          case e2 => (simp (disch := omega) only [evs, Nat.reduceEqDiff, Nat.reduceLT, reduceIte, cond_true, cond_false, List.map_cons, List.map_nil, Nat.reduceAdd, e8]; rfl)
          case a => exact bw
          case hf => exact fg
          case hlo => exact sg.next
          case hl => omega
          case e3 => intro u; simp (disch := omega) only [evs, Nat.reduceEqDiff, Nat.reduceLT, reduceIte, cond_true, cond_false, List.map_cons, List.map_nil, Nat.reduceAdd, e6]
          case hs => intro e; cases e
          case k =>
          intro w' g' u b' s'
          repeat (first
            | ((first | apply Ops.op | apply Ops.op0 | apply Drs.bar | apply Drs.pure); case e => (intro k; simp (disch := omega) only [evs, Nat.reduceEqDiff, Nat.reduceLT, reduceIte, cond_true, cond_false, Nat.reduceAdd, e2, e5, e6, e8, e14, e15, e16]; rfl))
            | ((first | apply Ops.g1 | apply Drs.g1); case e => (simp (disch := omega) only [evs, Nat.reduceEqDiff, Nat.reduceLT, reduceIte, e2, e5, e6, e8, e14, e15, e16]))
            | ((first | apply Ops.g0t | apply Ops.g0f | apply Drs.g0t | apply Drs.g0f); case e => (simp (disch := omega) only [evs, Nat.reduceEqDiff, Nat.reduceLT, reduceIte, e2, e5, e6, e8, e14, e15, e16]))
            | ((first | apply Ops.g0u | apply Drs.g0u); case e => (simp (disch := omega) only [evs, Nat.reduceEqDiff, Nat.reduceLT, reduceIte, e2, e5, e6, e8, e14, e15, e16]))
            | apply Ok.seq
            | apply Ok.block
            | (apply Ok.ops (S := Sp))
            | (apply Ok.condT; case e => (simp (disch := omega) only [evs, Nat.reduceEqDiff, Nat.reduceLT, reduceIte, e2, e5, e6, e8, e14, e15, e16]))
            | (apply Ok.condF; case e => (simp (disch := omega) only [evs, Nat.reduceEqDiff, Nat.reduceLT, reduceIte, e2, e5, e6, e8, e14, e15, e16]))
            | ((first | apply Ops.nil | apply Drs.nil | apply Ok.skip | apply Ok.exit | apply Ok.ret); try simp only [Then_n, Then_e, Then_r, Out_n, Out_e, Out_r, Nat.reduceEqDiff, reduceIte])
            | (apply Ok.drs (S := Sp) hmix)
            )
          refine ⟨L.length - (r + 1), by omega, r + 1, w', by omega, rfl, sg.past' s' fun i hi => bw.own i hi, by simp (disch := omega) only [evs, Nat.reduceEqDiff, Nat.reduceLT, reduceIte, cond_true, cond_false, List.map_cons, List.map_nil, Nat.reduceAdd, e2], by simp (disch := omega) only [evs, Nat.reduceEqDiff, Nat.reduceLT, reduceIte, cond_true, cond_false, List.map_cons, List.map_nil, Nat.reduceAdd, e5], by simp (disch := omega) only [evs, Nat.reduceEqDiff, Nat.reduceLT, reduceIte, cond_true, cond_false, List.map_cons, List.map_nil, Nat.reduceAdd], by simp (disch := omega) only [evs, Nat.reduceEqDiff, Nat.reduceLT, reduceIte, cond_true, cond_false, List.map_cons, List.map_nil, Nat.reduceAdd, e14], by simp (disch := omega) only [evs, Nat.reduceEqDiff, Nat.reduceLT, reduceIte, cond_true, cond_false, List.map_cons, List.map_nil, Nat.reduceAdd, e15], by simp (disch := omega) only [evs, Nat.reduceEqDiff, Nat.reduceLT, reduceIte, cond_true, cond_false, List.map_cons, List.map_nil, Nat.reduceAdd, e16, Int.natCast_add, Int.natCast_one], ?_⟩
          rw [covers0_succ M L (by omega), hb, if_pos hT]
          exact b'
        case ha =>
          intro hc2
          have hc2 := of_decide_eq_true hc2
          obtain ⟨c, hcq, hcM, hlv⟩ := hmem q (by omega)
          obtain ⟨_, _, _, hsq⟩ := lvls_rows (M := M) (a := 0) hlv
          by_cases hcb : c = b
          · have d : decide ((c : Int) = (b : Int)) = true := decide_eq_true (by omega)
            repeat (first
              | ((first | apply Ops.op | apply Ops.op0 | apply Drs.bar | apply Drs.pure); case e => (intro k; simp (disch := omega) only [evs, Nat.reduceEqDiff, Nat.reduceLT, reduceIte, cond_true, cond_false, Nat.reduceAdd, e2, e5, e6, e8, e14, e15, e16, e20, e21, e22, hLg.idx, hLg.rd, hcq, d]; rfl))
              | ((first | apply Ops.g1 | apply Drs.g1); case e => (simp (disch := omega) only [evs, Nat.reduceEqDiff, Nat.reduceLT, reduceIte, e2, e5, e6, e8, e14, e15, e16, e20, e21, e22, hLg.idx, hLg.rd, hcq, d]))
              | ((first | apply Ops.g0t | apply Ops.g0f | apply Drs.g0t | apply Drs.g0f); case e => (simp (disch := omega) only [evs, Nat.reduceEqDiff, Nat.reduceLT, reduceIte, e2, e5, e6, e8, e14, e15, e16, e20, e21, e22, hLg.idx, hLg.rd, hcq, d]))
              | ((first | apply Ops.g0u | apply Drs.g0u); case e => (simp (disch := omega) only [evs, Nat.reduceEqDiff, Nat.reduceLT, reduceIte, e2, e5, e6, e8, e14, e15, e16, e20, e21, e22, hLg.idx, hLg.rd, hcq, d]))
              | apply Ok.seq
              | apply Ok.block
              | (apply Ok.ops (S := Sp))
              | (apply Ok.condT; case e => (simp (disch := omega) only [evs, Nat.reduceEqDiff, Nat.reduceLT, reduceIte, e2, e5, e6, e8, e14, e15, e16, e20, e21, e22, hLg.idx, hLg.rd, hcq, d]))
              | (apply Ok.condF; case e => (simp (disch := omega) only [evs, Nat.reduceEqDiff, Nat.reduceLT, reduceIte, e2, e5, e6, e8, e14, e15, e16, e20, e21, e22, hLg.idx, hLg.rd, hcq, d]))
              | ((first | apply Ops.nil | apply Drs.nil | apply Ok.skip | apply Ok.exit | apply Ok.ret); try simp only [Then_n, Then_e, Then_r, Out_n, Out_e, Out_r, Nat.reduceEqDiff, reduceIte])
              | (apply Ok.drs (S := Sp) hmix)
              )
            refine ⟨L.length - (q + 1), by omega, q + 1, by omega, rfl, by trivial, by simp (disch := omega) only [evs, Nat.reduceEqDiff, Nat.reduceLT, reduceIte, cond_true, cond_false, List.map_cons, List.map_nil, Nat.reduceAdd, e2], by simp (disch := omega) only [evs, Nat.reduceEqDiff, Nat.reduceLT, reduceIte, cond_true, cond_false, List.map_cons, List.map_nil, Nat.reduceAdd, e5], by simp (disch := omega) only [evs, Nat.reduceEqDiff, Nat.reduceLT, reduceIte, cond_true, cond_false, List.map_cons, List.map_nil, Nat.reduceAdd, e6], by simp (disch := omega) only [evs, Nat.reduceEqDiff, Nat.reduceLT, reduceIte, cond_true, cond_false, List.map_cons, List.map_nil, Nat.reduceAdd, e8], by simp (disch := omega) only [evs, Nat.reduceEqDiff, Nat.reduceLT, reduceIte, cond_true, cond_false, List.map_cons, List.map_nil, Nat.reduceAdd, e14], by simp (disch := omega) only [evs, Nat.reduceEqDiff, Nat.reduceLT, reduceIte, cond_true, cond_false, List.map_cons, List.map_nil, Nat.reduceAdd, e15], by simp (disch := omega) only [evs, Nat.reduceEqDiff, Nat.reduceLT, reduceIte, cond_true, cond_false, List.map_cons, List.map_nil, Nat.reduceAdd, e16], by simp (disch := omega) only [evs, Nat.reduceEqDiff, Nat.reduceLT, reduceIte, cond_true, cond_false, List.map_cons, List.map_nil, Nat.reduceAdd, e20], by simp (disch := omega) only [evs, Nat.reduceEqDiff, Nat.reduceLT, reduceIte, cond_true, cond_false, List.map_cons, List.map_nil, Nat.reduceAdd, e21], by simp (disch := omega) only [evs, Nat.reduceEqDiff, Nat.reduceLT, reduceIte, cond_true, cond_false, List.map_cons, List.map_nil, Nat.reduceAdd, e22, Int.natCast_add, Int.natCast_one], ?_⟩
            rw [topB_succ _ _ _ (by omega), hT, hcq]; simp [hcb]
          · have d : decide ((c : Int) = (b : Int)) = false := decide_eq_false (by omega)
            obtain ⟨rv, hrv, hld⟩ := hMg.rd (i := c) hcM
            have hlc := hsq c hcM
            cases hx : (M.getD c []).getD b false
            · repeat (first
                | ((first | apply Ops.op | apply Ops.op0 | apply Drs.bar | apply Drs.pure); case e => (intro k; simp (disch := omega) only [evs, Nat.reduceEqDiff, Nat.reduceLT, reduceIte, cond_true, cond_false, Nat.reduceAdd, e2, e5, e6, e8, e14, e15, e16, e20, e21, e22, hLg.idx, hLg.rd, hcq, d, hrowg.rd1, hMg.idx, hld, hrv.idx, hrv.rd, hx]; rfl))
                | ((first | apply Ops.g1 | apply Drs.g1); case e => (simp (disch := omega) only [evs, Nat.reduceEqDiff, Nat.reduceLT, reduceIte, e2, e5, e6, e8, e14, e15, e16, e20, e21, e22, hLg.idx, hLg.rd, hcq, d, hrowg.rd1, hMg.idx, hld, hrv.idx, hrv.rd, hx]))
                | ((first | apply Ops.g0t | apply Ops.g0f | apply Drs.g0t | apply Drs.g0f); case e => (simp (disch := omega) only [evs, Nat.reduceEqDiff, Nat.reduceLT, reduceIte, e2, e5, e6, e8, e14, e15, e16, e20, e21, e22, hLg.idx, hLg.rd, hcq, d, hrowg.rd1, hMg.idx, hld, hrv.idx, hrv.rd, hx]))
                | ((first | apply Ops.g0u | apply Drs.g0u); case e => (simp (disch := omega) only [evs, Nat.reduceEqDiff, Nat.reduceLT, reduceIte, e2, e5, e6, e8, e14, e15, e16, e20, e21, e22, hLg.idx, hLg.rd, hcq, d, hrowg.rd1, hMg.idx, hld, hrv.idx, hrv.rd, hx]))
                | apply Ok.seq
                | apply Ok.block
                | (apply Ok.ops (S := Sp))
                | (apply Ok.condT; case e => (simp (disch := omega) only [evs, Nat.reduceEqDiff, Nat.reduceLT, reduceIte, e2, e5, e6, e8, e14, e15, e16, e20, e21, e22, hLg.idx, hLg.rd, hcq, d, hrowg.rd1, hMg.idx, hld, hrv.idx, hrv.rd, hx]))
                | (apply Ok.condF; case e => (simp (disch := omega) only [evs, Nat.reduceEqDiff, Nat.reduceLT, reduceIte, e2, e5, e6, e8, e14, e15, e16, e20, e21, e22, hLg.idx, hLg.rd, hcq, d, hrowg.rd1, hMg.idx, hld, hrv.idx, hrv.rd, hx]))
                | ((first | apply Ops.nil | apply Drs.nil | apply Ok.skip | apply Ok.exit | apply Ok.ret); try simp only [Then_n, Then_e, Then_r, Out_n, Out_e, Out_r, Nat.reduceEqDiff, reduceIte])
                | (apply Ok.drs (S := Sp) hmix)
                )
              refine ⟨L.length - (q + 1), by omega, q + 1, by omega, rfl, by trivial, by simp (disch := omega) only [evs, Nat.reduceEqDiff, Nat.reduceLT, reduceIte, cond_true, cond_false, List.map_cons, List.map_nil, Nat.reduceAdd, e2], by simp (disch := omega) only [evs, Nat.reduceEqDiff, Nat.reduceLT, reduceIte, cond_true, cond_false, List.map_cons, List.map_nil, Nat.reduceAdd, e5], by simp (disch := omega) only [evs, Nat.reduceEqDiff, Nat.reduceLT, reduceIte, cond_true, cond_false, List.map_cons, List.map_nil, Nat.reduceAdd, e6], by simp (disch := omega) only [evs, Nat.reduceEqDiff, Nat.reduceLT, reduceIte, cond_true, cond_false, List.map_cons, List.map_nil, Nat.reduceAdd, e8], by simp (disch := omega) only [evs, Nat.reduceEqDiff, Nat.reduceLT, reduceIte, cond_true, cond_false, List.map_cons, List.map_nil, Nat.reduceAdd, e14], by simp (disch := omega) only [evs, Nat.reduceEqDiff, Nat.reduceLT, reduceIte, cond_true, cond_false, List.map_cons, List.map_nil, Nat.reduceAdd, e15], by simp (disch := omega) only [evs, Nat.reduceEqDiff, Nat.reduceLT, reduceIte, cond_true, cond_false, List.map_cons, List.map_nil, Nat.reduceAdd, e16], by simp (disch := omega) only [evs, Nat.reduceEqDiff, Nat.reduceLT, reduceIte, cond_true, cond_false, List.map_cons, List.map_nil, Nat.reduceAdd, e20], by simp (disch := omega) only [evs, Nat.reduceEqDiff, Nat.reduceLT, reduceIte, cond_true, cond_false, List.map_cons, List.map_nil, Nat.reduceAdd, e21], by simp (disch := omega) only [evs, Nat.reduceEqDiff, Nat.reduceLT, reduceIte, cond_true, cond_false, List.map_cons, List.map_nil, Nat.reduceAdd, e22, Int.natCast_add, Int.natCast_one], ?_⟩
              rw [topB_succ _ _ _ (by omega), hT, hcq]; unfold at2; simp only [Int.toNat_natCast]; rw [hx]; simp
            · repeat (first
                | ((first | apply Ops.op | apply Ops.op0 | apply Drs.bar | apply Drs.pure); case e => (intro k; simp (disch := omega) only [evs, Nat.reduceEqDiff, Nat.reduceLT, reduceIte, cond_true, cond_false, Nat.reduceAdd, e2, e5, e6, e8, e14, e15, e16, e20, e21, e22, hLg.idx, hLg.rd, hcq, d, hrowg.rd1, hMg.idx, hld, hrv.idx, hrv.rd, hx]; rfl))
                | ((first | apply Ops.g1 | apply Drs.g1); case e => (simp (disch := omega) only [evs, Nat.reduceEqDiff, Nat.reduceLT, reduceIte, e2, e5, e6, e8, e14, e15, e16, e20, e21, e22, hLg.idx, hLg.rd, hcq, d, hrowg.rd1, hMg.idx, hld, hrv.idx, hrv.rd, hx]))
                | ((first | apply Ops.g0t | apply Ops.g0f | apply Drs.g0t | apply Drs.g0f); case e => (simp (disch := omega) only [evs, Nat.reduceEqDiff, Nat.reduceLT, reduceIte, e2, e5, e6, e8, e14, e15, e16, e20, e21, e22, hLg.idx, hLg.rd, hcq, d, hrowg.rd1, hMg.idx, hld, hrv.idx, hrv.rd, hx]))
                | ((first | apply Ops.g0u | apply Drs.g0u); case e => (simp (disch := omega) only [evs, Nat.reduceEqDiff, Nat.reduceLT, reduceIte, e2, e5, e6, e8, e14, e15, e16, e20, e21, e22, hLg.idx, hLg.rd, hcq, d, hrowg.rd1, hMg.idx, hld, hrv.idx, hrv.rd, hx]))
                | apply Ok.seq
                | apply Ok.block
                | (apply Ok.ops (S := Sp))
                | (apply Ok.condT; case e => (simp (disch := omega) only [evs, Nat.reduceEqDiff, Nat.reduceLT, reduceIte, e2, e5, e6, e8, e14, e15, e16, e20, e21, e22, hLg.idx, hLg.rd, hcq, d, hrowg.rd1, hMg.idx, hld, hrv.idx, hrv.rd, hx]))
                | (apply Ok.condF; case e => (simp (disch := omega) only [evs, Nat.reduceEqDiff, Nat.reduceLT, reduceIte, e2, e5, e6, e8, e14, e15, e16, e20, e21, e22, hLg.idx, hLg.rd, hcq, d, hrowg.rd1, hMg.idx, hld, hrv.idx, hrv.rd, hx]))
                | ((first | apply Ops.nil | apply Drs.nil | apply Ok.skip | apply Ok.exit | apply Ok.ret); try simp only [Then_n, Then_e, Then_r, Out_n, Out_e, Out_r, Nat.reduceEqDiff, reduceIte])
                | (apply Ok.drs (S := Sp) hmix)
                )
              refine ⟨L.length - (r + 1), by omega, r + 1, w, by omega, rfl, sg, by simp (disch := omega) only [evs, Nat.reduceEqDiff, Nat.reduceLT, reduceIte, cond_true, cond_false, List.map_cons, List.map_nil, Nat.reduceAdd, e2], by simp (disch := omega) only [evs, Nat.reduceEqDiff, Nat.reduceLT, reduceIte, cond_true, cond_false, List.map_cons, List.map_nil, Nat.reduceAdd, e5], by simp (disch := omega) only [evs, Nat.reduceEqDiff, Nat.reduceLT, reduceIte, cond_true, cond_false, List.map_cons, List.map_nil, Nat.reduceAdd, e6], by simp (disch := omega) only [evs, Nat.reduceEqDiff, Nat.reduceLT, reduceIte, cond_true, cond_false, List.map_cons, List.map_nil, Nat.reduceAdd, e14], by simp (disch := omega) only [evs, Nat.reduceEqDiff, Nat.reduceLT, reduceIte, cond_true, cond_false, List.map_cons, List.map_nil, Nat.reduceAdd, e15], by simp (disch := omega) only [evs, Nat.reduceEqDiff, Nat.reduceLT, reduceIte, cond_true, cond_false, List.map_cons, List.map_nil, Nat.reduceAdd, e16, Int.natCast_add, Int.natCast_one], ?_⟩
              have hF : topB M L (b : Int) L.length = false := by
                cases ht : topB M L (b : Int) L.length with
                | false => rfl
                | true =>
                  unfold topB at ht
                  rw [List.take_length, List.all_eq_true] at ht
                  have := ht (L.getD q 0) (by have : q < L.length := by omega
                                              simp [List.getD, this])
                  rw [hcq] at this
                  unfold at2 at this
                  simp only [Int.toNat_natCast] at this
                  rw [hx] at this
                  simp at this
                  omega
              rw [covers0_succ M L (by omega), hb, if_neg (by rw [hF]; simp), List.append_nil]
              exact bw
      · exact ⟨0, Nat.zero_le _, rfl, rfl, by simp (disch := omega) only [evs, Nat.reduceEqDiff, Nat.reduceLT, reduceIte, cond_true, cond_false, List.map_cons, List.map_nil, Nat.reduceAdd, f2], by simp (disch := omega) only [evs, Nat.reduceEqDiff, Nat.reduceLT, reduceIte, cond_true, cond_false, List.map_cons, List.map_nil, Nat.reduceAdd, f5], by simp (disch := omega) only [evs, Nat.reduceEqDiff, Nat.reduceLT, reduceIte, cond_true, cond_false, List.map_cons, List.map_nil, Nat.reduceAdd, f6], by simp (disch := omega) only [evs, Nat.reduceEqDiff, Nat.reduceLT, reduceIte, cond_true, cond_false, List.map_cons, List.map_nil, Nat.reduceAdd], by simp (disch := omega) only [evs, Nat.reduceEqDiff, Nat.reduceLT, reduceIte, cond_true, cond_false, List.map_cons, List.map_nil, Nat.reduceAdd, f14], by simp (disch := omega) only [evs, Nat.reduceEqDiff, Nat.reduceLT, reduceIte, cond_true, cond_false, List.map_cons, List.map_nil, Nat.reduceAdd, f15], by simp (disch := omega) only [evs, Nat.reduceEqDiff, Nat.reduceLT, reduceIte, cond_true, cond_false, List.map_cons, List.map_nil, Nat.reduceAdd, f16], by simp (disch := omega) only [evs, Nat.reduceEqDiff, Nat.reduceLT, reduceIte, cond_true, cond_false, List.map_cons, List.map_nil, Nat.reduceAdd, f5], by simp (disch := omega) only [evs, Nat.reduceEqDiff, Nat.reduceLT, reduceIte, cond_true, cond_false, List.map_cons, List.map_nil, Nat.reduceAdd], by simp (disch := omega) only [evs, Nat.reduceEqDiff, Nat.reduceLT, reduceIte, cond_true, cond_false, List.map_cons, List.map_nil, Nat.reduceAdd], rfl⟩
  · exact ⟨0, .l0, Nat.zero_le _, rfl, Stay.refl _ _, by simp (disch := omega) only [evs, Nat.reduceEqDiff, Nat.reduceLT, reduceIte, cond_true, cond_false, List.map_cons, List.map_nil, Nat.reduceAdd], by simp (disch := omega) only [evs, Nat.reduceEqDiff, Nat.reduceLT, reduceIte, cond_true, cond_false, List.map_cons, List.map_nil, Nat.reduceAdd], by simp (disch := omega) only [evs, Nat.reduceEqDiff, Nat.reduceLT, reduceIte, cond_true, cond_false, List.map_cons, List.map_nil, Nat.reduceAdd], by simp (disch := omega) only [evs, Nat.reduceEqDiff, Nat.reduceLT, reduceIte, cond_true, cond_false, List.map_cons, List.map_nil, Nat.reduceAdd], by simp (disch := omega) only [evs, Nat.reduceEqDiff, Nat.reduceLT, reduceIte, cond_true, cond_false, List.map_cons, List.map_nil, Nat.reduceAdd], by simp (disch := omega) only [evs, Nat.reduceEqDiff, Nat.reduceLT, reduceIte, cond_true, cond_false, List.map_cons, List.map_nil, Nat.reduceAdd], Ib.nil _ _ _⟩
end Go.Proofs.Ytpnflehemjbemaa
