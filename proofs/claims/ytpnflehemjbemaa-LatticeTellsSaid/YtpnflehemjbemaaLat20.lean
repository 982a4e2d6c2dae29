/- Chain of the document, by what it computes. No condition. -/
import Derived.Test.YtpnflehemjbemaaLat19
import Derived.Test.YtpnflehemjbemaaEvR
set_option maxRecDepth 100000
set_option maxHeartbeats 8000000
set_option linter.all false
namespace Go.Proofs.Ytpnflehemjbemaa
open Go Go.Ev

def rowsV (k : Nat) (f : Nat → B) (a : Nat) : List V := (List.range a).map (rowV k f)
theorem rowsV_succ {k a : Nat} (f : Nat → B) (x : B) : rowsV k f a ++ [.l x 0 0 k k (some k)] = rowsV k (fun i => if i = a then x else f i) (a + 1) := by
  unfold rowsV
  rw [List.range_succ, List.map_append]
  congr 1
  · apply List.map_congr_left
    intro i hi
    have : i < a := by simpa using hi
    show V.l (f i) 0 0 k k (some k) = V.l (if i = a then x else f i) 0 0 k k (some k)
    rw [if_neg (by omega)]
  · simp [rowV]
theorem rowsV_get {k a i : Nat} (f : Nat → B) (h : i < a) : (rowsV k f a)[i]? = some (rowV k f i) := by simp [rowsV, h]
theorem buf_one {h : H} {el : Nat} {w : V} {xs : List V} (b : Buf h el 1 w xs) : oneV w = true := by rcases b with ⟨rfl, _⟩ | ⟨_, _, _, _, rfl, _⟩ <;> rfl
theorem buf_cells {h : H} {el : Nat} {w : V} {xs : List V} (b : Buf h el 1 w xs) : cells w = [w] := by rcases b with ⟨rfl, _⟩ | ⟨_, _, _, _, rfl, _⟩ <;> rfl

theorem rchain_ok {h : H} {n : Int} (hn1 : -9223372036854775808 ≤ n) (hn : n ≤ 9223372036854775807) (hf : B.val h.floor ≤ B.val h.next) : FnOk Try.prog 32 [.i .i64 n] h fun y h' => ∃ w, y = .a [w] ∧ Mx h' w (chainM (min (max n 1) 6).toNat) ∧ Stay nowhere h h' := by
  refine fn_run c32 (by intro hb; cases hb) (by simp) (by simp) ?_
  simp only [slotsF, Nat.reduceAdd]
  unfold b32
  obtain ⟨k, hk⟩ : ∃ k, k = (min (max n 1) 6).toNat := ⟨_, rfl⟩
  rw [← hk]
  have hk6 : 1 ≤ k ∧ k ≤ 6 := by omega
  have hkk : max 1 (min n 6) = (k : Int) := by omega
  clear hk
  repeat (first
    | ((first | apply Ops.op | apply Ops.op0 | apply Drs.bar | apply Drs.pure); case e => (intro k; simp (disch := omega) only [evs, evt, Int.reduceToNat, Int.reduceEq, Int.reduceLT, Int.reduceLE, decide_true, decide_false, Nat.reduceEqDiff, Nat.reduceLT, reduceIte, cond_true, cond_false, Nat.reduceAdd]; rfl))
    | ((first | apply Ops.g1 | apply Drs.g1); case e => (simp (disch := omega) only [evs, evt, Int.reduceToNat, Int.reduceEq, Int.reduceLT, Int.reduceLE, decide_true, decide_false, Nat.reduceEqDiff, Nat.reduceLT, reduceIte]))
    | ((first | apply Ops.g0t | apply Ops.g0f | apply Drs.g0t | apply Drs.g0f); case e => (simp (disch := omega) only [evs, evt, Int.reduceToNat, Int.reduceEq, Int.reduceLT, Int.reduceLE, decide_true, decide_false, Nat.reduceEqDiff, Nat.reduceLT, reduceIte]))
    | ((first | apply Ops.g0u | apply Drs.g0u); case e => (simp (disch := omega) only [evs, evt, Int.reduceToNat, Int.reduceEq, Int.reduceLT, Int.reduceLE, decide_true, decide_false, Nat.reduceEqDiff, Nat.reduceLT, reduceIte]))
    | apply Ok.seq
    | apply Ok.block
    | (apply Ok.ops (S := Sp))
    | (apply Ok.condT; case e => (simp (disch := omega) only [evs, evt, Int.reduceToNat, Int.reduceEq, Int.reduceLT, Int.reduceLE, decide_true, decide_false, Nat.reduceEqDiff, Nat.reduceLT, reduceIte]))
    | (apply Ok.condF; case e => (simp (disch := omega) only [evs, evt, Int.reduceToNat, Int.reduceEq, Int.reduceLT, Int.reduceLE, decide_true, decide_false, Nat.reduceEqDiff, Nat.reduceLT, reduceIte]))
    | ((first | apply Ops.nil | apply Drs.nil | apply Ok.skip | apply Ok.exit | apply Ok.ret); try simp only [Then_n, Then_e, Then_r, Out_n, Out_e, Out_r, Nat.reduceEqDiff, reduceIte])
    | (apply Ok.drs (S := Sp) hmix)
    )
  apply Ops.alloc1 hf
  intro h1 id s1 hid hn1' o1
  have hf1 := s1.fl hf
  repeat (first
    | ((first | apply Ops.op | apply Ops.op0 | apply Drs.bar | apply Drs.pure); case e => (intro k; simp (disch := omega) only [evs, evt, Int.reduceToNat, Int.reduceEq, Int.reduceLT, Int.reduceLE, decide_true, decide_false, Nat.reduceEqDiff, Nat.reduceLT, reduceIte, cond_true, cond_false, Nat.reduceAdd, hkk]; rfl))
    | ((first | apply Ops.g1 | apply Drs.g1); case e => (simp (disch := omega) only [evs, evt, Int.reduceToNat, Int.reduceEq, Int.reduceLT, Int.reduceLE, decide_true, decide_false, Nat.reduceEqDiff, Nat.reduceLT, reduceIte, hkk]))
    | ((first | apply Ops.g0t | apply Ops.g0f | apply Drs.g0t | apply Drs.g0f); case e => (simp (disch := omega) only [evs, evt, Int.reduceToNat, Int.reduceEq, Int.reduceLT, Int.reduceLE, decide_true, decide_false, Nat.reduceEqDiff, Nat.reduceLT, reduceIte, hkk]))
    | ((first | apply Ops.g0u | apply Drs.g0u); case e => (simp (disch := omega) only [evs, evt, Int.reduceToNat, Int.reduceEq, Int.reduceLT, Int.reduceLE, decide_true, decide_false, Nat.reduceEqDiff, Nat.reduceLT, reduceIte, hkk]))
    | apply Ok.seq
    | apply Ok.block
    | (apply Ok.ops (S := Sp))
    | (apply Ok.condT; case e => (simp (disch := omega) only [evs, evt, Int.reduceToNat, Int.reduceEq, Int.reduceLT, Int.reduceLE, decide_true, decide_false, Nat.reduceEqDiff, Nat.reduceLT, reduceIte, hkk]))
    | (apply Ok.condF; case e => (simp (disch := omega) only [evs, evt, Int.reduceToNat, Int.reduceEq, Int.reduceLT, Int.reduceLE, decide_true, decide_false, Nat.reduceEqDiff, Nat.reduceLT, reduceIte, hkk]))
    | ((first | apply Ops.nil | apply Drs.nil | apply Ok.skip | apply Ok.exit | apply Ok.ret); try simp only [Then_n, Then_e, Then_r, Out_n, Out_e, Out_r, Nat.reduceEqDiff, reduceIte])
    | (apply Ok.drs (S := Sp) hmix)
    )
  apply Ops.alloc1 hf1
  intro h2 id4 s2 hid4 hn2 o4
  have hne4 : id4 ≠ id := fun e => by
    have h3 := congrArg B.val e
    rw [hid4, hid] at h3; omega
  have o2 := o1.stay s2 fun h => h
  repeat (first
    | ((first | apply Ops.op | apply Ops.op0 | apply Drs.bar | apply Drs.pure); case e => (intro k; simp (disch := omega) only [evs, evt, Int.reduceToNat, Int.reduceEq, Int.reduceLT, Int.reduceLE, decide_true, decide_false, Nat.reduceEqDiff, Nat.reduceLT, reduceIte, cond_true, cond_false, Nat.reduceAdd, hkk]; rfl))
    | ((first | apply Ops.g1 | apply Drs.g1); case e => (simp (disch := omega) only [evs, evt, Int.reduceToNat, Int.reduceEq, Int.reduceLT, Int.reduceLE, decide_true, decide_false, Nat.reduceEqDiff, Nat.reduceLT, reduceIte, hkk]))
    | ((first | apply Ops.g0t | apply Ops.g0f | apply Drs.g0t | apply Drs.g0f); case e => (simp (disch := omega) only [evs, evt, Int.reduceToNat, Int.reduceEq, Int.reduceLT, Int.reduceLE, decide_true, decide_false, Nat.reduceEqDiff, Nat.reduceLT, reduceIte, hkk]))
    | ((first | apply Ops.g0u | apply Drs.g0u); case e => (simp (disch := omega) only [evs, evt, Int.reduceToNat, Int.reduceEq, Int.reduceLT, Int.reduceLE, decide_true, decide_false, Nat.reduceEqDiff, Nat.reduceLT, reduceIte, hkk]))
    | apply Ok.seq
    | apply Ok.block
    | (apply Ok.ops (S := Sp))
    | (apply Ok.condT; case e => (simp (disch := omega) only [evs, evt, Int.reduceToNat, Int.reduceEq, Int.reduceLT, Int.reduceLE, decide_true, decide_false, Nat.reduceEqDiff, Nat.reduceLT, reduceIte, hkk]))
    | (apply Ok.condF; case e => (simp (disch := omega) only [evs, evt, Int.reduceToNat, Int.reduceEq, Int.reduceLT, Int.reduceLE, decide_true, decide_false, Nat.reduceEqDiff, Nat.reduceLT, reduceIte, hkk]))
    | ((first | apply Ops.nil | apply Drs.nil | apply Ok.skip | apply Ok.exit | apply Ok.ret); try simp only [Then_n, Then_e, Then_r, Out_n, Out_e, Out_r, Nat.reduceEqDiff, reduceIte])
    | (apply Ok.drs (S := Sp) hmix)
    )
  apply Ops.store (y := .l0) (xs := [.l0]) (j := 0) (id := id4) (fin := 1)
  case e1 => (simp (disch := omega) only [evs, evt, Int.reduceToNat, Int.reduceEq, Int.reduceLT, Int.reduceLE, decide_true, decide_false, Nat.reduceEqDiff, Nat.reduceLT, reduceIte, cond_true, cond_false, List.map_cons, List.map_nil, Nat.reduceAdd])
  case e2 => (simp (disch := omega) only [evs, evt, Int.reduceToNat, Int.reduceEq, Int.reduceLT, Int.reduceLE, decide_true, decide_false, Nat.reduceEqDiff, Nat.reduceLT, reduceIte, cond_true, cond_false, List.map_cons, List.map_nil, Nat.reduceAdd]; rfl)
  case ho => exact o4
  case hj => omega
  case hfit => omega
  case h1 => rfl
  case k =>
  intro h3 o4' s3
  have o3 := o2.stay s3 fun e => hne4 e.symm
  have st3 : Stay nowhere h h3 := (s1.trans s2).past' s3 fun i hi => by rw [hi, hid4]; exact s1.next
  have hlo4 : B.val id4 < B.val h3.next := by obtain ⟨_, _, _, _, _, _, h6, _⟩ := o4'; exact h6
  have hlo : B.val id < B.val h3.next := by obtain ⟨_, _, _, _, _, _, h6, _⟩ := o3; exact h6
  repeat (first
    | ((first | apply Ops.op | apply Ops.op0 | apply Drs.bar | apply Drs.pure); case e => (intro k; simp (disch := omega) only [evs, evt, Int.reduceToNat, Int.reduceEq, Int.reduceLT, Int.reduceLE, decide_true, decide_false, Nat.reduceEqDiff, Nat.reduceLT, reduceIte, cond_true, cond_false, Nat.reduceAdd]; rfl))
    | ((first | apply Ops.g1 | apply Drs.g1); case e => (simp (disch := omega) only [evs, evt, Int.reduceToNat, Int.reduceEq, Int.reduceLT, Int.reduceLE, decide_true, decide_false, Nat.reduceEqDiff, Nat.reduceLT, reduceIte]))
    | ((first | apply Ops.g0t | apply Ops.g0f | apply Drs.g0t | apply Drs.g0f); case e => (simp (disch := omega) only [evs, evt, Int.reduceToNat, Int.reduceEq, Int.reduceLT, Int.reduceLE, decide_true, decide_false, Nat.reduceEqDiff, Nat.reduceLT, reduceIte]))
    | ((first | apply Ops.g0u | apply Drs.g0u); case e => (simp (disch := omega) only [evs, evt, Int.reduceToNat, Int.reduceEq, Int.reduceLT, Int.reduceLE, decide_true, decide_false, Nat.reduceEqDiff, Nat.reduceLT, reduceIte]))
    | apply Ok.seq
    | apply Ok.block
    | (apply Ok.ops (S := Sp))
    | (apply Ok.condT; case e => (simp (disch := omega) only [evs, evt, Int.reduceToNat, Int.reduceEq, Int.reduceLT, Int.reduceLE, decide_true, decide_false, Nat.reduceEqDiff, Nat.reduceLT, reduceIte]))
    | (apply Ok.condF; case e => (simp (disch := omega) only [evs, evt, Int.reduceToNat, Int.reduceEq, Int.reduceLT, Int.reduceLE, decide_true, decide_false, Nat.reduceEqDiff, Nat.reduceLT, reduceIte]))
    | ((first | apply Ops.nil | apply Drs.nil | apply Ok.skip | apply Ok.exit | apply Ok.ret); try simp only [Then_n, Then_e, Then_r, Out_n, Out_e, Out_r, Nat.reduceEqDiff, reduceIte])
    | (apply Ok.drs (S := Sp) hmix)
    )
  refine Ok.loop (fun m t g => ∃ (a : Nat) (f : Nat → B) (w : V), a ≤ k ∧ m = k - a ∧ Stay nowhere h g ∧ B.val h3.next ≤ B.val g.next ∧ get 2 t = .p id 0 0 1 ∧ get 3 t = .i .i64 (k : Int) ∧ get 4 t = .p id4 0 0 1 ∧ get 5 t = .i .i64 (a : Int) ∧
    Own g id [.l0] ∧ Own g id4 [w] ∧ Buf g 48 1 w (rowsV k f a) ∧ (∀ i, isOf w i → B.val h3.next ≤ B.val i) ∧ Made g (B.val h3.next) k f a ∧ ∀ i, i < a → ¬ isOf w (f i)) ?_ k _ _ ?_
  case refine_2 => exact ⟨0, fun _ => id, .l0, Nat.zero_le _, rfl, st3, Nat.le_refl _, by simp (disch := omega) only [evs, evt, Int.reduceToNat, Int.reduceEq, Int.reduceLT, Int.reduceLE, decide_true, decide_false, Nat.reduceEqDiff, Nat.reduceLT, reduceIte, cond_true, cond_false, List.map_cons, List.map_nil, Nat.reduceAdd], by simp (disch := omega) only [evs, evt, Int.reduceToNat, Int.reduceEq, Int.reduceLT, Int.reduceLE, decide_true, decide_false, Nat.reduceEqDiff, Nat.reduceLT, reduceIte, cond_true, cond_false, List.map_cons, List.map_nil, Nat.reduceAdd, hkk], by simp (disch := omega) only [evs, evt, Int.reduceToNat, Int.reduceEq, Int.reduceLT, Int.reduceLE, decide_true, decide_false, Nat.reduceEqDiff, Nat.reduceLT, reduceIte, cond_true, cond_false, List.map_cons, List.map_nil, Nat.reduceAdd], by simp (disch := omega) only [evs, evt, Int.reduceToNat, Int.reduceEq, Int.reduceLT, Int.reduceLE, decide_true, decide_false, Nat.reduceEqDiff, Nat.reduceLT, reduceIte, cond_true, cond_false, List.map_cons, List.map_nil, Nat.reduceAdd], o3, o4', Buf.nil _ _ _, (fun i hi => by obtain ⟨_, _, _, _, _, e⟩ := hi; cases e), ⟨fun i hi => absurd hi (Nat.not_lt_zero _), fun i hi => absurd hi (Nat.not_lt_zero _)⟩, fun i hi => absurd hi (Nat.not_lt_zero _)⟩
  rintro m t g ⟨a, f, w, ha, rfl, st, hng, f2, f3, f4, f5, og, ow, bw, bup, md, mne⟩
  have fg := st.fl hf
  unfold l32_0
  repeat (first
    | ((first | apply Ops.op | apply Ops.op0 | apply Drs.bar | apply Drs.pure); case e => (intro k; simp (disch := omega) only [evs, evt, Int.reduceToNat, Int.reduceEq, Int.reduceLT, Int.reduceLE, decide_true, decide_false, Nat.reduceEqDiff, Nat.reduceLT, reduceIte, cond_true, cond_false, Nat.reduceAdd, f3, f5]; rfl))
    | ((first | apply Ops.g1 | apply Drs.g1); case e => (simp (disch := omega) only [evs, evt, Int.reduceToNat, Int.reduceEq, Int.reduceLT, Int.reduceLE, decide_true, decide_false, Nat.reduceEqDiff, Nat.reduceLT, reduceIte, f3, f5]))
    | ((first | apply Ops.g0t | apply Ops.g0f | apply Drs.g0t | apply Drs.g0f); case e => (simp (disch := omega) only [evs, evt, Int.reduceToNat, Int.reduceEq, Int.reduceLT, Int.reduceLE, decide_true, decide_false, Nat.reduceEqDiff, Nat.reduceLT, reduceIte, f3, f5]))
    | ((first | apply Ops.g0u | apply Drs.g0u); case e => (simp (disch := omega) only [evs, evt, Int.reduceToNat, Int.reduceEq, Int.reduceLT, Int.reduceLE, decide_true, decide_false, Nat.reduceEqDiff, Nat.reduceLT, reduceIte, f3, f5]))
    | apply Ok.seq
    | apply Ok.block
    | (apply Ok.ops (S := Sp))
    | (apply Ok.condT; case e => (simp (disch := omega) only [evs, evt, Int.reduceToNat, Int.reduceEq, Int.reduceLT, Int.reduceLE, decide_true, decide_false, Nat.reduceEqDiff, Nat.reduceLT, reduceIte, f3, f5]))
    | (apply Ok.condF; case e => (simp (disch := omega) only [evs, evt, Int.reduceToNat, Int.reduceEq, Int.reduceLT, Int.reduceLE, decide_true, decide_false, Nat.reduceEqDiff, Nat.reduceLT, reduceIte, f3, f5]))
    | ((first | apply Ops.nil | apply Drs.nil | apply Ok.skip | apply Ok.exit | apply Ok.ret); try simp only [Then_n, Then_e, Then_r, Out_n, Out_e, Out_r, Nat.reduceEqDiff, reduceIte])
    | (apply Ok.drs (S := Sp) hmix)
    )
  apply Ok.cond
  case hq => (simp (disch := omega) only [evs, evt, Int.reduceToNat, Int.reduceEq, Int.reduceLT, Int.reduceLE, decide_true, decide_false, Nat.reduceEqDiff, Nat.reduceLT, reduceIte, cond_true, cond_false, List.map_cons, List.map_nil, Nat.reduceAdd, f3, f5]; rfl)
  case hb =>
    intro hc
    have hc := of_decide_eq_false hc
    have : a = k := by omega
    subst this
    repeat (first
      | ((first | apply Ops.op | apply Ops.op0 | apply Drs.bar | apply Drs.pure); case e => (intro k; simp (disch := omega) only [evs, evt, Int.reduceToNat, Int.reduceEq, Int.reduceLT, Int.reduceLE, decide_true, decide_false, Nat.reduceEqDiff, Nat.reduceLT, reduceIte, cond_true, cond_false, Nat.reduceAdd, f2, f4, ow.row.rdA]; rfl))
      | ((first | apply Ops.g1 | apply Drs.g1); case e => (simp (disch := omega) only [evs, evt, Int.reduceToNat, Int.reduceEq, Int.reduceLT, Int.reduceLE, decide_true, decide_false, Nat.reduceEqDiff, Nat.reduceLT, reduceIte, f2, f4, ow.row.rdA]))
      | ((first | apply Ops.g0t | apply Ops.g0f | apply Drs.g0t | apply Drs.g0f); case e => (simp (disch := omega) only [evs, evt, Int.reduceToNat, Int.reduceEq, Int.reduceLT, Int.reduceLE, decide_true, decide_false, Nat.reduceEqDiff, Nat.reduceLT, reduceIte, f2, f4, ow.row.rdA]))
      | ((first | apply Ops.g0u | apply Drs.g0u); case e => (simp (disch := omega) only [evs, evt, Int.reduceToNat, Int.reduceEq, Int.reduceLT, Int.reduceLE, decide_true, decide_false, Nat.reduceEqDiff, Nat.reduceLT, reduceIte, f2, f4, ow.row.rdA]))
      | apply Ok.seq
      | apply Ok.block
      | (apply Ok.ops (S := Sp))
      | (apply Ok.condT; case e => (simp (disch := omega) only [evs, evt, Int.reduceToNat, Int.reduceEq, Int.reduceLT, Int.reduceLE, decide_true, decide_false, Nat.reduceEqDiff, Nat.reduceLT, reduceIte, f2, f4, ow.row.rdA]))
      | (apply Ok.condF; case e => (simp (disch := omega) only [evs, evt, Int.reduceToNat, Int.reduceEq, Int.reduceLT, Int.reduceLE, decide_true, decide_false, Nat.reduceEqDiff, Nat.reduceLT, reduceIte, f2, f4, ow.row.rdA]))
      | ((first | apply Ops.nil | apply Drs.nil | apply Ok.skip | apply Ok.exit | apply Ok.ret); try simp only [Then_n, Then_e, Then_r, Out_n, Out_e, Out_r, Nat.reduceEqDiff, reduceIte])
      | (apply Ok.drs (S := Sp) hmix)
      )
    apply Ops.store (y := w) (xs := [.l0]) (j := 0) (id := id) (fin := 1)
    case e1 => (simp (disch := omega) only [evs, evt, Int.reduceToNat, Int.reduceEq, Int.reduceLT, Int.reduceLE, decide_true, decide_false, Nat.reduceEqDiff, Nat.reduceLT, reduceIte, cond_true, cond_false, List.map_cons, List.map_nil, Nat.reduceAdd, f2])
    case e2 => (simp (disch := omega) only [evs, evt, Int.reduceToNat, Int.reduceEq, Int.reduceLT, Int.reduceLE, decide_true, decide_false, Nat.reduceEqDiff, Nat.reduceLT, reduceIte, cond_true, cond_false, List.map_cons, List.map_nil, Nat.reduceAdd]; rfl)
    case ho => exact og
    case hj => omega
    case hfit => omega
    case h1 => exact buf_one bw
    case k =>
    intro g' o' s'
    have hw : ∀ i, isOf w i → ¬ (i = id) := fun i hi e => by
      have := bup i hi
      rw [e] at this; omega
    have bw' := bw.stay s' hw
    have md' := md.stay s' fun i hi e => by
      have := md.up i hi
      rw [e] at this; omega
    repeat (first
      | ((first | apply Ops.op | apply Ops.op0 | apply Drs.bar | apply Drs.pure); case e => (intro k; simp (disch := omega) only [evs, evt, Int.reduceToNat, Int.reduceEq, Int.reduceLT, Int.reduceLE, decide_true, decide_false, Nat.reduceEqDiff, Nat.reduceLT, reduceIte, cond_true, cond_false, Nat.reduceAdd]; rfl))
      | ((first | apply Ops.g1 | apply Drs.g1); case e => (simp (disch := omega) only [evs, evt, Int.reduceToNat, Int.reduceEq, Int.reduceLT, Int.reduceLE, decide_true, decide_false, Nat.reduceEqDiff, Nat.reduceLT, reduceIte]))
      | ((first | apply Ops.g0t | apply Ops.g0f | apply Drs.g0t | apply Drs.g0f); case e => (simp (disch := omega) only [evs, evt, Int.reduceToNat, Int.reduceEq, Int.reduceLT, Int.reduceLE, decide_true, decide_false, Nat.reduceEqDiff, Nat.reduceLT, reduceIte]))
      | ((first | apply Ops.g0u | apply Drs.g0u); case e => (simp (disch := omega) only [evs, evt, Int.reduceToNat, Int.reduceEq, Int.reduceLT, Int.reduceLE, decide_true, decide_false, Nat.reduceEqDiff, Nat.reduceLT, reduceIte]))
      | apply Ok.seq
      | apply Ok.block
      | (apply Ok.ops (S := Sp))
      | (apply Ok.condT; case e => (simp (disch := omega) only [evs, evt, Int.reduceToNat, Int.reduceEq, Int.reduceLT, Int.reduceLE, decide_true, decide_false, Nat.reduceEqDiff, Nat.reduceLT, reduceIte]))
      | (apply Ok.condF; case e => (simp (disch := omega) only [evs, evt, Int.reduceToNat, Int.reduceEq, Int.reduceLT, Int.reduceLE, decide_true, decide_false, Nat.reduceEqDiff, Nat.reduceLT, reduceIte]))
      | ((first | apply Ops.nil | apply Drs.nil | apply Ok.skip | apply Ok.exit | apply Ok.ret); try simp only [Then_n, Then_e, Then_r, Out_n, Out_e, Out_r, Nat.reduceEqDiff, reduceIte])
      | (apply Ok.drs (S := Sp) hmix)
      )
    refine ⟨_, fun k => res_A _ _ _ id _ (by simp (disch := omega) only [evs, evt, Int.reduceToNat, Int.reduceEq, Int.reduceLT, Int.reduceLE, decide_true, decide_false, Nat.reduceEqDiff, Nat.reduceLT, reduceIte, cond_true, cond_false, List.map_cons, List.map_nil, Nat.reduceAdd, f2]) o' k, ?_⟩
    refine ⟨_, rfl, ⟨rowsV a f a, bw'.lst, by simp [rowsV, chainM_len], fun i r hr => ?_⟩, ?_⟩
    · have hi : i < a := by have := (List.getElem?_eq_some_iff.1 hr).1; simpa [rowsV] using this
      rw [rowsV_get f hi] at hr
      cases hr
      rw [chainM_get hi]
      have := (md'.own i hi).lst (some a)
      rw [List.length_map, prow_len] at this
      exact this
    · exact st.past' s' fun i hi => by rw [hi, hid]; exact Nat.le_refl _
  case ha =>
  intro hc
  have hc := of_decide_eq_true hc
  have hak : a < k := by omega
  repeat (first
    | ((first | apply Ops.op | apply Ops.op0 | apply Drs.bar | apply Drs.pure); case e => (intro k; simp (disch := omega) only [evs, evt, Int.reduceToNat, Int.reduceEq, Int.reduceLT, Int.reduceLE, decide_true, decide_false, Nat.reduceEqDiff, Nat.reduceLT, reduceIte, cond_true, cond_false, Nat.reduceAdd, f2, f3, f4, f5]; rfl))
    | ((first | apply Ops.g1 | apply Drs.g1); case e => (simp (disch := omega) only [evs, evt, Int.reduceToNat, Int.reduceEq, Int.reduceLT, Int.reduceLE, decide_true, decide_false, Nat.reduceEqDiff, Nat.reduceLT, reduceIte, f2, f3, f4, f5]))
    | ((first | apply Ops.g0t | apply Ops.g0f | apply Drs.g0t | apply Drs.g0f); case e => (simp (disch := omega) only [evs, evt, Int.reduceToNat, Int.reduceEq, Int.reduceLT, Int.reduceLE, decide_true, decide_false, Nat.reduceEqDiff, Nat.reduceLT, reduceIte, f2, f3, f4, f5]))
    | ((first | apply Ops.g0u | apply Drs.g0u); case e => (simp (disch := omega) only [evs, evt, Int.reduceToNat, Int.reduceEq, Int.reduceLT, Int.reduceLE, decide_true, decide_false, Nat.reduceEqDiff, Nat.reduceLT, reduceIte, f2, f3, f4, f5]))
    | apply Ok.seq
    | apply Ok.block
    | (apply Ok.ops (S := Sp))
    | (apply Ok.condT; case e => (simp (disch := omega) only [evs, evt, Int.reduceToNat, Int.reduceEq, Int.reduceLT, Int.reduceLE, decide_true, decide_false, Nat.reduceEqDiff, Nat.reduceLT, reduceIte, f2, f3, f4, f5]))
    | (apply Ok.condF; case e => (simp (disch := omega) only [evs, evt, Int.reduceToNat, Int.reduceEq, Int.reduceLT, Int.reduceLE, decide_true, decide_false, Nat.reduceEqDiff, Nat.reduceLT, reduceIte, f2, f3, f4, f5]))
    | ((first | apply Ops.nil | apply Drs.nil | apply Ok.skip | apply Ok.exit | apply Ok.ret); try simp only [Then_n, Then_e, Then_r, Out_n, Out_e, Out_r, Nat.reduceEqDiff, reduceIte])
    | (apply Ok.drs (S := Sp) hmix)
    )
  apply Ops.mkSlice (a := k) (b := k) (kd := .i64) (kd' := .i64)
  case e1 => (simp (disch := omega) only [evs, evt, Int.reduceToNat, Int.reduceEq, Int.reduceLT, Int.reduceLE, decide_true, decide_false, Nat.reduceEqDiff, Nat.reduceLT, reduceIte, cond_true, cond_false, List.map_cons, List.map_nil, Nat.reduceAdd, f3])
  case e2 => (simp (disch := omega) only [evs, evt, Int.reduceToNat, Int.reduceEq, Int.reduceLT, Int.reduceLE, decide_true, decide_false, Nat.reduceEqDiff, Nat.reduceLT, reduceIte, cond_true, cond_false, List.map_cons, List.map_nil, Nat.reduceAdd, f3])
  case hab => exact Nat.le_refl _
  case hb => omega
  case hf => exact fg
  case k =>
  intro g1 idr s4 hidr hn4 orr
  have sg1 := st.trans s4
  have og1 := og.stay s4 fun h => h
  have ow1 := ow.stay s4 fun h => h
  have bw1 := bw.grow s4
  have md1 := md.stay s4 fun _ _ h => h
  have owlt : B.val id4 < B.val g.next := by obtain ⟨_, _, _, _, _, _, h6, _⟩ := ow; exact h6
  have oglt : B.val id < B.val g.next := by obtain ⟨_, _, _, _, _, _, h6, _⟩ := og; exact h6
  have hr4 : ¬ (idr = id4) := fun e => by rw [← e, hidr] at owlt; omega
  have hrI : ¬ (idr = id) := fun e => by rw [← e, hidr] at oglt; omega
  have hrw : ¬ isOf w idr := fun e => by
    have := (bw.own e).2
    rw [hidr] at this; omega
  have hrf : ∀ i, i < a → ¬ (f i = idr) := fun i hi e => by
    obtain ⟨_, _, _, _, _, _, h6, _⟩ := md.own i hi
    rw [e, hidr] at h6; omega
  have eprow : List.replicate k (V.b false) = (prow k 0).map V.b := by rw [prow_zero, List.map_replicate]
  rw [eprow] at orr
  have hn5 : B.val h3.next ≤ B.val g1.next := Nat.le_trans hng s4.next
  have hrup : B.val h3.next ≤ B.val idr := by rw [hidr]; exact hng
  repeat (first
    | ((first | apply Ops.op | apply Ops.op0 | apply Drs.bar | apply Drs.pure); case e => (intro k; simp (disch := omega) only [evs, evt, Int.reduceToNat, Int.reduceEq, Int.reduceLT, Int.reduceLE, decide_true, decide_false, Nat.reduceEqDiff, Nat.reduceLT, reduceIte, cond_true, cond_false, Nat.reduceAdd, f2, f3, f4, f5]; rfl))
    | ((first | apply Ops.g1 | apply Drs.g1); case e => (simp (disch := omega) only [evs, evt, Int.reduceToNat, Int.reduceEq, Int.reduceLT, Int.reduceLE, decide_true, decide_false, Nat.reduceEqDiff, Nat.reduceLT, reduceIte, f2, f3, f4, f5]))
    | ((first | apply Ops.g0t | apply Ops.g0f | apply Drs.g0t | apply Drs.g0f); case e => (simp (disch := omega) only [evs, evt, Int.reduceToNat, Int.reduceEq, Int.reduceLT, Int.reduceLE, decide_true, decide_false, Nat.reduceEqDiff, Nat.reduceLT, reduceIte, f2, f3, f4, f5]))
    | ((first | apply Ops.g0u | apply Drs.g0u); case e => (simp (disch := omega) only [evs, evt, Int.reduceToNat, Int.reduceEq, Int.reduceLT, Int.reduceLE, decide_true, decide_false, Nat.reduceEqDiff, Nat.reduceLT, reduceIte, f2, f3, f4, f5]))
    | apply Ok.seq
    | apply Ok.block
    | (apply Ok.ops (S := Sp))
    | (apply Ok.condT; case e => (simp (disch := omega) only [evs, evt, Int.reduceToNat, Int.reduceEq, Int.reduceLT, Int.reduceLE, decide_true, decide_false, Nat.reduceEqDiff, Nat.reduceLT, reduceIte, f2, f3, f4, f5]))
    | (apply Ok.condF; case e => (simp (disch := omega) only [evs, evt, Int.reduceToNat, Int.reduceEq, Int.reduceLT, Int.reduceLE, decide_true, decide_false, Nat.reduceEqDiff, Nat.reduceLT, reduceIte, f2, f3, f4, f5]))
    | ((first | apply Ops.nil | apply Drs.nil | apply Ok.skip | apply Ok.exit | apply Ok.ret); try simp only [Then_n, Then_e, Then_r, Out_n, Out_e, Out_r, Nat.reduceEqDiff, reduceIte])
    | (apply Ok.drs (S := Sp) hmix)
    )
  refine Ok.loop (fun m t g => ∃ b : Nat, b ≤ a + 1 ∧ m = a + 1 - b ∧ Stay nowhere h g ∧ B.val g1.next ≤ B.val g.next ∧ get 2 t = .p id 0 0 1 ∧ get 3 t = .i .i64 (k : Int) ∧ get 4 t = .p id4 0 0 1 ∧ get 5 t = .i .i64 (a : Int) ∧ get 6 t = .l idr 0 0 k k (some k) ∧ get 7 t = .i .i64 (b : Int) ∧
    Own g id [.l0] ∧ Own g id4 [w] ∧ Buf g 48 1 w (rowsV k f a) ∧ Own g idr ((prow k b).map V.b) ∧ Made g (B.val h3.next) k f a) ?_ (a + 1) _ _ ?_
  case refine_2 => exact ⟨0, Nat.zero_le _, rfl, sg1, Nat.le_refl _, by simp (disch := omega) only [evs, evt, Int.reduceToNat, Int.reduceEq, Int.reduceLT, Int.reduceLE, decide_true, decide_false, Nat.reduceEqDiff, Nat.reduceLT, reduceIte, cond_true, cond_false, List.map_cons, List.map_nil, Nat.reduceAdd, f2], by simp (disch := omega) only [evs, evt, Int.reduceToNat, Int.reduceEq, Int.reduceLT, Int.reduceLE, decide_true, decide_false, Nat.reduceEqDiff, Nat.reduceLT, reduceIte, cond_true, cond_false, List.map_cons, List.map_nil, Nat.reduceAdd, f3], by simp (disch := omega) only [evs, evt, Int.reduceToNat, Int.reduceEq, Int.reduceLT, Int.reduceLE, decide_true, decide_false, Nat.reduceEqDiff, Nat.reduceLT, reduceIte, cond_true, cond_false, List.map_cons, List.map_nil, Nat.reduceAdd, f4], by simp (disch := omega) only [evs, evt, Int.reduceToNat, Int.reduceEq, Int.reduceLT, Int.reduceLE, decide_true, decide_false, Nat.reduceEqDiff, Nat.reduceLT, reduceIte, cond_true, cond_false, List.map_cons, List.map_nil, Nat.reduceAdd, f5], by simp (disch := omega) only [evs, evt, Int.reduceToNat, Int.reduceEq, Int.reduceLT, Int.reduceLE, decide_true, decide_false, Nat.reduceEqDiff, Nat.reduceLT, reduceIte, cond_true, cond_false, List.map_cons, List.map_nil, Nat.reduceAdd], by simp (disch := omega) only [evs, evt, Int.reduceToNat, Int.reduceEq, Int.reduceLT, Int.reduceLE, decide_true, decide_false, Nat.reduceEqDiff, Nat.reduceLT, reduceIte, cond_true, cond_false, List.map_cons, List.map_nil, Nat.reduceAdd], og1, ow1, bw1, orr, md1⟩
  clear f2 f3 f4 f5
  rintro m t g2 ⟨b, hb, rfl, sg2, hn6, f2, f3, f4, f5, f6, f7, og2, ow2, bw2, or2, md2⟩
  unfold l32_1
  repeat (first
    | ((first | apply Ops.op | apply Ops.op0 | apply Drs.bar | apply Drs.pure); case e => (intro k; simp (disch := omega) only [evs, evt, Int.reduceToNat, Int.reduceEq, Int.reduceLT, Int.reduceLE, decide_true, decide_false, Nat.reduceEqDiff, Nat.reduceLT, reduceIte, cond_true, cond_false, Nat.reduceAdd, f5, f7]; rfl))
    | ((first | apply Ops.g1 | apply Drs.g1); case e => (simp (disch := omega) only [evs, evt, Int.reduceToNat, Int.reduceEq, Int.reduceLT, Int.reduceLE, decide_true, decide_false, Nat.reduceEqDiff, Nat.reduceLT, reduceIte, f5, f7]))
    | ((first | apply Ops.g0t | apply Ops.g0f | apply Drs.g0t | apply Drs.g0f); case e => (simp (disch := omega) only [evs, evt, Int.reduceToNat, Int.reduceEq, Int.reduceLT, Int.reduceLE, decide_true, decide_false, Nat.reduceEqDiff, Nat.reduceLT, reduceIte, f5, f7]))
    | ((first | apply Ops.g0u | apply Drs.g0u); case e => (simp (disch := omega) only [evs, evt, Int.reduceToNat, Int.reduceEq, Int.reduceLT, Int.reduceLE, decide_true, decide_false, Nat.reduceEqDiff, Nat.reduceLT, reduceIte, f5, f7]))
    | apply Ok.seq
    | apply Ok.block
    | (apply Ok.ops (S := Sp))
    | (apply Ok.condT; case e => (simp (disch := omega) only [evs, evt, Int.reduceToNat, Int.reduceEq, Int.reduceLT, Int.reduceLE, decide_true, decide_false, Nat.reduceEqDiff, Nat.reduceLT, reduceIte, f5, f7]))
    | (apply Ok.condF; case e => (simp (disch := omega) only [evs, evt, Int.reduceToNat, Int.reduceEq, Int.reduceLT, Int.reduceLE, decide_true, decide_false, Nat.reduceEqDiff, Nat.reduceLT, reduceIte, f5, f7]))
    | ((first | apply Ops.nil | apply Drs.nil | apply Ok.skip | apply Ok.exit | apply Ok.ret); try simp only [Then_n, Then_e, Then_r, Out_n, Out_e, Out_r, Nat.reduceEqDiff, reduceIte])
    | (apply Ok.drs (S := Sp) hmix)
    )
  apply Ok.cond
  case hq => (simp (disch := omega) only [evs, evt, Int.reduceToNat, Int.reduceEq, Int.reduceLT, Int.reduceLE, decide_true, decide_false, Nat.reduceEqDiff, Nat.reduceLT, reduceIte, cond_true, cond_false, List.map_cons, List.map_nil, Nat.reduceAdd, f5, f7]; rfl)
  case ha =>
    intro hc2
    have hc2 := of_decide_eq_true hc2
    have hbk : b < k := by omega
    repeat (first
      | ((first | apply Ops.op | apply Ops.op0 | apply Drs.bar | apply Drs.pure); case e => (intro k; simp (disch := omega) only [evs, evt, Int.reduceToNat, Int.reduceEq, Int.reduceLT, Int.reduceLE, decide_true, decide_false, Nat.reduceEqDiff, Nat.reduceLT, reduceIte, cond_true, cond_false, Nat.reduceAdd, f2, f3, f4, f5, f6, f7, own_idx]; rfl))
      | ((first | apply Ops.g1 | apply Drs.g1); case e => (simp (disch := omega) only [evs, evt, Int.reduceToNat, Int.reduceEq, Int.reduceLT, Int.reduceLE, decide_true, decide_false, Nat.reduceEqDiff, Nat.reduceLT, reduceIte, f2, f3, f4, f5, f6, f7, own_idx]))
      | ((first | apply Ops.g0t | apply Ops.g0f | apply Drs.g0t | apply Drs.g0f); case e => (simp (disch := omega) only [evs, evt, Int.reduceToNat, Int.reduceEq, Int.reduceLT, Int.reduceLE, decide_true, decide_false, Nat.reduceEqDiff, Nat.reduceLT, reduceIte, f2, f3, f4, f5, f6, f7, own_idx]))
      | ((first | apply Ops.g0u | apply Drs.g0u); case e => (simp (disch := omega) only [evs, evt, Int.reduceToNat, Int.reduceEq, Int.reduceLT, Int.reduceLE, decide_true, decide_false, Nat.reduceEqDiff, Nat.reduceLT, reduceIte, f2, f3, f4, f5, f6, f7, own_idx]))
      | apply Ok.seq
      | apply Ok.block
      | (apply Ok.ops (S := Sp))
      | (apply Ok.condT; case e => (simp (disch := omega) only [evs, evt, Int.reduceToNat, Int.reduceEq, Int.reduceLT, Int.reduceLE, decide_true, decide_false, Nat.reduceEqDiff, Nat.reduceLT, reduceIte, f2, f3, f4, f5, f6, f7, own_idx]))
      | (apply Ok.condF; case e => (simp (disch := omega) only [evs, evt, Int.reduceToNat, Int.reduceEq, Int.reduceLT, Int.reduceLE, decide_true, decide_false, Nat.reduceEqDiff, Nat.reduceLT, reduceIte, f2, f3, f4, f5, f6, f7, own_idx]))
      | ((first | apply Ops.nil | apply Drs.nil | apply Ok.skip | apply Ok.exit | apply Ok.ret); try simp only [Then_n, Then_e, Then_r, Out_n, Out_e, Out_r, Nat.reduceEqDiff, reduceIte])
      | (apply Ok.drs (S := Sp) hmix)
      )
    apply Ops.store (y := .b true) (xs := (prow k b).map V.b) (j := b) (id := idr) (fin := k)
    case e1 => (simp (disch := omega) only [evs, evt, Int.reduceToNat, Int.reduceEq, Int.reduceLT, Int.reduceLE, decide_true, decide_false, Nat.reduceEqDiff, Nat.reduceLT, reduceIte, cond_true, cond_false, List.map_cons, List.map_nil, Nat.reduceAdd])
    case e2 => rfl
    case ho => exact or2
    case hj => omega
    case hfit => omega
    case h1 => rfl
    case k =>
    intro g4 or4 s5
    rw [← List.map_set, prow_set hbk] at or4
    repeat (first
      | ((first | apply Ops.op | apply Ops.op0 | apply Drs.bar | apply Drs.pure); case e => (intro k; simp (disch := omega) only [evs, evt, Int.reduceToNat, Int.reduceEq, Int.reduceLT, Int.reduceLE, decide_true, decide_false, Nat.reduceEqDiff, Nat.reduceLT, reduceIte, cond_true, cond_false, Nat.reduceAdd, f2, f3, f4, f5, f6, f7]; rfl))
      | ((first | apply Ops.g1 | apply Drs.g1); case e => (simp (disch := omega) only [evs, evt, Int.reduceToNat, Int.reduceEq, Int.reduceLT, Int.reduceLE, decide_true, decide_false, Nat.reduceEqDiff, Nat.reduceLT, reduceIte, f2, f3, f4, f5, f6, f7]))
      | ((first | apply Ops.g0t | apply Ops.g0f | apply Drs.g0t | apply Drs.g0f); case e => (simp (disch := omega) only [evs, evt, Int.reduceToNat, Int.reduceEq, Int.reduceLT, Int.reduceLE, decide_true, decide_false, Nat.reduceEqDiff, Nat.reduceLT, reduceIte, f2, f3, f4, f5, f6, f7]))
      | ((first | apply Ops.g0u | apply Drs.g0u); case e => (simp (disch := omega) only [evs, evt, Int.reduceToNat, Int.reduceEq, Int.reduceLT, Int.reduceLE, decide_true, decide_false, Nat.reduceEqDiff, Nat.reduceLT, reduceIte, f2, f3, f4, f5, f6, f7]))
      | apply Ok.seq
      | apply Ok.block
      | (apply Ok.ops (S := Sp))
      | (apply Ok.condT; case e => (simp (disch := omega) only [evs, evt, Int.reduceToNat, Int.reduceEq, Int.reduceLT, Int.reduceLE, decide_true, decide_false, Nat.reduceEqDiff, Nat.reduceLT, reduceIte, f2, f3, f4, f5, f6, f7]))
      | (apply Ok.condF; case e => (simp (disch := omega) only [evs, evt, Int.reduceToNat, Int.reduceEq, Int.reduceLT, Int.reduceLE, decide_true, decide_false, Nat.reduceEqDiff, Nat.reduceLT, reduceIte, f2, f3, f4, f5, f6, f7]))
      | ((first | apply Ops.nil | apply Drs.nil | apply Ok.skip | apply Ok.exit | apply Ok.ret); try simp only [Then_n, Then_e, Then_r, Out_n, Out_e, Out_r, Nat.reduceEqDiff, reduceIte])
      | (apply Ok.drs (S := Sp) hmix)
      )
    refine ⟨a + 1 - (b + 1), by omega, b + 1, by omega, rfl, ?_, Nat.le_trans hn6 s5.next, by simp (disch := omega) only [evs, evt, Int.reduceToNat, Int.reduceEq, Int.reduceLT, Int.reduceLE, decide_true, decide_false, Nat.reduceEqDiff, Nat.reduceLT, reduceIte, cond_true, cond_false, List.map_cons, List.map_nil, Nat.reduceAdd, f2], by simp (disch := omega) only [evs, evt, Int.reduceToNat, Int.reduceEq, Int.reduceLT, Int.reduceLE, decide_true, decide_false, Nat.reduceEqDiff, Nat.reduceLT, reduceIte, cond_true, cond_false, List.map_cons, List.map_nil, Nat.reduceAdd, f3], by simp (disch := omega) only [evs, evt, Int.reduceToNat, Int.reduceEq, Int.reduceLT, Int.reduceLE, decide_true, decide_false, Nat.reduceEqDiff, Nat.reduceLT, reduceIte, cond_true, cond_false, List.map_cons, List.map_nil, Nat.reduceAdd, f4], by simp (disch := omega) only [evs, evt, Int.reduceToNat, Int.reduceEq, Int.reduceLT, Int.reduceLE, decide_true, decide_false, Nat.reduceEqDiff, Nat.reduceLT, reduceIte, cond_true, cond_false, List.map_cons, List.map_nil, Nat.reduceAdd, f5], by simp (disch := omega) only [evs, evt, Int.reduceToNat, Int.reduceEq, Int.reduceLT, Int.reduceLE, decide_true, decide_false, Nat.reduceEqDiff, Nat.reduceLT, reduceIte, cond_true, cond_false, List.map_cons, List.map_nil, Nat.reduceAdd, f6], by simp (disch := omega) only [evs, evt, Int.reduceToNat, Int.reduceEq, Int.reduceLT, Int.reduceLE, decide_true, decide_false, Nat.reduceEqDiff, Nat.reduceLT, reduceIte, cond_true, cond_false, List.map_cons, List.map_nil, Nat.reduceAdd, f7, Int.natCast_add, Int.natCast_one], og2.stay s5 fun e => hrI e.symm, ow2.stay s5 fun e => hr4 e.symm, bw2.stay s5 fun i hi e => hrw (by rw [← e]; exact hi), or4, md2.stay s5 fun i hi e => hrf i hi e⟩
    exact sg2.past' s5 fun i hi => by rw [hi, hidr]; exact st.next
  case hb =>
  intro hc2
  have hc2 := of_decide_eq_false hc2
  have : b = a + 1 := by omega
  subst this
  have fg2 := sg2.fl hf
  repeat (first
    | ((first | apply Ops.op | apply Ops.op0 | apply Drs.bar | apply Drs.pure); case e => (intro k; simp (disch := omega) only [evs, evt, Int.reduceToNat, Int.reduceEq, Int.reduceLT, Int.reduceLE, decide_true, decide_false, Nat.reduceEqDiff, Nat.reduceLT, reduceIte, cond_true, cond_false, Nat.reduceAdd, f2, f3, f4, f5, f6, ow2.row.rd1]; rfl))
    | ((first | apply Ops.g1 | apply Drs.g1); case e => (simp (disch := omega) only [evs, evt, Int.reduceToNat, Int.reduceEq, Int.reduceLT, Int.reduceLE, decide_true, decide_false, Nat.reduceEqDiff, Nat.reduceLT, reduceIte, f2, f3, f4, f5, f6, ow2.row.rd1]))
    | ((first | apply Ops.g0t | apply Ops.g0f | apply Drs.g0t | apply Drs.g0f); case e => (simp (disch := omega) only [evs, evt, Int.reduceToNat, Int.reduceEq, Int.reduceLT, Int.reduceLE, decide_true, decide_false, Nat.reduceEqDiff, Nat.reduceLT, reduceIte, f2, f3, f4, f5, f6, ow2.row.rd1]))
    | ((first | apply Ops.g0u | apply Drs.g0u); case e => (simp (disch := omega) only [evs, evt, Int.reduceToNat, Int.reduceEq, Int.reduceLT, Int.reduceLE, decide_true, decide_false, Nat.reduceEqDiff, Nat.reduceLT, reduceIte, f2, f3, f4, f5, f6, ow2.row.rd1]))
    | apply Ok.seq
    | apply Ok.block
    | (apply Ok.ops (S := Sp))
    | (apply Ok.condT; case e => (simp (disch := omega) only [evs, evt, Int.reduceToNat, Int.reduceEq, Int.reduceLT, Int.reduceLE, decide_true, decide_false, Nat.reduceEqDiff, Nat.reduceLT, reduceIte, f2, f3, f4, f5, f6, ow2.row.rd1]))
    | (apply Ok.condF; case e => (simp (disch := omega) only [evs, evt, Int.reduceToNat, Int.reduceEq, Int.reduceLT, Int.reduceLE, decide_true, decide_false, Nat.reduceEqDiff, Nat.reduceLT, reduceIte, f2, f3, f4, f5, f6, ow2.row.rd1]))
    | ((first | apply Ops.nil | apply Drs.nil | apply Ok.skip | apply Ok.exit | apply Ok.ret); try simp only [Then_n, Then_e, Then_r, Out_n, Out_e, Out_r, Nat.reduceEqDiff, reduceIte])
    | (apply Ok.drs (S := Sp) hmix)
    )
  apply Ops.lit1 (y := .l idr 0 0 k k (some k))
  case e1 => (simp (disch := omega) only [evs, evt, Int.reduceToNat, Int.reduceEq, Int.reduceLT, Int.reduceLE, decide_true, decide_false, Nat.reduceEqDiff, Nat.reduceLT, reduceIte, cond_true, cond_false, List.map_cons, List.map_nil, Nat.reduceAdd, f6])
  case h1 => rfl
  case h2 => rfl
  case hf => exact fg2
  case k =>
  intro g3 idl s6 hidl hnl ol
  have sg3 := sg2.trans s6
  have bw3 := bw2.grow s6
  have ow3 := ow2.stay s6 fun h => h
  have og3 := og2.stay s6 fun h => h
  have or3 := or2.stay s6 fun h => h
  have md3 := md2.stay s6 fun _ _ h => h
  apply Ops.app1 (xs := rowsV k f a) (y := .l idr 0 0 k k (some k)) (v := w) (id := idl)
  case e1 => (simp (disch := omega) only [evs, evt, Int.reduceToNat, Int.reduceEq, Int.reduceLT, Int.reduceLE, decide_true, decide_false, Nat.reduceEqDiff, Nat.reduceLT, reduceIte, cond_true, cond_false, List.map_cons, List.map_nil, Nat.reduceAdd]; try rfl)
  case e2 => (simp (disch := omega) only [evs, evt, Int.reduceToNat, Int.reduceEq, Int.reduceLT, Int.reduceLE, decide_true, decide_false, Nat.reduceEqDiff, Nat.reduceLT, reduceIte, cond_true, cond_false, List.map_cons, List.map_nil, Nat.reduceAdd])
  case hr => exact ol.row
  case hb => exact bw3
  case hf => exact sg3.fl hf
  case h1 => rfl
  case hl => simp [rowsV]; omega
  case k =>
  intro w' g4 bw4 s7 hw'
  rw [rowsV_succ] at bw4
  obtain ⟨f', hf'⟩ : ∃ f' : Nat → B, f' = fun i => if i = a then idr else f i := ⟨_, rfl⟩
  rw [← hf'] at bw4
  have hfa : f' a = idr := by rw [hf']; simp
  have hfi : ∀ i, i < a → f' i = f i := fun i hi => by rw [hf']; simp [show i ≠ a by omega]
  have hn7 : B.val h3.next ≤ B.val g3.next := Nat.le_trans hn5 (Nat.le_trans hn6 s6.next)
  have bup' : ∀ i, isOf w' i → B.val h3.next ≤ B.val i := fun i hi => by
    rcases hw' i hi with h7 | h7
    · exact bup i h7
    · omega
  have hw4 : ¬ isOf w id4 := fun e => by have := bup _ e; omega
  have hwI : ¬ isOf w id := fun e => by have := bup _ e; omega
  have ow4 := ow3.stay s7 hw4
  have og4 := og3.stay s7 hwI
  have or4 := or3.stay s7 hrw
  have md4 := md3.stay s7 mne
  have sg4 : Stay nowhere h g4 := sg3.past' s7 fun i hi => Nat.le_trans st3.next (bup i hi)
  have mne' : ∀ i, i < a + 1 → ¬ isOf w' (f' i) := fun i hi e => by
    rcases Nat.lt_or_ge i a with h7 | h7
    · rw [hfi i h7] at e
      rcases hw' _ e with h8 | h8
      · exact mne i h7 h8
      · obtain ⟨_, _, _, _, _, _, h6, _⟩ := md3.own i h7
        omega
    · have : i = a := by omega
      subst this
      rw [hfa] at e
      rcases hw' _ e with h8 | h8
      · exact hrw h8
      · obtain ⟨_, _, _, _, _, _, h6, _⟩ := or3
        omega
  repeat (first
    | ((first | apply Ops.op | apply Ops.op0 | apply Drs.bar | apply Drs.pure); case e => (intro k; simp (disch := omega) only [evs, evt, Int.reduceToNat, Int.reduceEq, Int.reduceLT, Int.reduceLE, decide_true, decide_false, Nat.reduceEqDiff, Nat.reduceLT, reduceIte, cond_true, cond_false, Nat.reduceAdd, f2, f3, f4, f5]; rfl))
    | ((first | apply Ops.g1 | apply Drs.g1); case e => (simp (disch := omega) only [evs, evt, Int.reduceToNat, Int.reduceEq, Int.reduceLT, Int.reduceLE, decide_true, decide_false, Nat.reduceEqDiff, Nat.reduceLT, reduceIte, f2, f3, f4, f5]))
    | ((first | apply Ops.g0t | apply Ops.g0f | apply Drs.g0t | apply Drs.g0f); case e => (simp (disch := omega) only [evs, evt, Int.reduceToNat, Int.reduceEq, Int.reduceLT, Int.reduceLE, decide_true, decide_false, Nat.reduceEqDiff, Nat.reduceLT, reduceIte, f2, f3, f4, f5]))
    | ((first | apply Ops.g0u | apply Drs.g0u); case e => (simp (disch := omega) only [evs, evt, Int.reduceToNat, Int.reduceEq, Int.reduceLT, Int.reduceLE, decide_true, decide_false, Nat.reduceEqDiff, Nat.reduceLT, reduceIte, f2, f3, f4, f5]))
    | apply Ok.seq
    | apply Ok.block
    | (apply Ok.ops (S := Sp))
    | (apply Ok.condT; case e => (simp (disch := omega) only [evs, evt, Int.reduceToNat, Int.reduceEq, Int.reduceLT, Int.reduceLE, decide_true, decide_false, Nat.reduceEqDiff, Nat.reduceLT, reduceIte, f2, f3, f4, f5]))
    | (apply Ok.condF; case e => (simp (disch := omega) only [evs, evt, Int.reduceToNat, Int.reduceEq, Int.reduceLT, Int.reduceLE, decide_true, decide_false, Nat.reduceEqDiff, Nat.reduceLT, reduceIte, f2, f3, f4, f5]))
    | ((first | apply Ops.nil | apply Drs.nil | apply Ok.skip | apply Ok.exit | apply Ok.ret); try simp only [Then_n, Then_e, Then_r, Out_n, Out_e, Out_r, Nat.reduceEqDiff, reduceIte])
    | (apply Ok.drs (S := Sp) hmix)
    )
  apply Ops.store (y := w') (xs := [w]) (j := 0) (id := id4) (fin := 1)
  case e1 => (simp (disch := omega) only [evs, evt, Int.reduceToNat, Int.reduceEq, Int.reduceLT, Int.reduceLE, decide_true, decide_false, Nat.reduceEqDiff, Nat.reduceLT, reduceIte, cond_true, cond_false, List.map_cons, List.map_nil, Nat.reduceAdd, f4])
  case e2 => (simp (disch := omega) only [evs, evt, Int.reduceToNat, Int.reduceEq, Int.reduceLT, Int.reduceLE, decide_true, decide_false, Nat.reduceEqDiff, Nat.reduceLT, reduceIte, cond_true, cond_false, List.map_cons, List.map_nil, Nat.reduceAdd]; exact buf_cells bw4)
  case ho => exact ow4
  case hj => omega
  case hfit => omega
  case h1 => exact buf_one bw4
  case k =>
  intro g5 ow5 s8
  have hw4' : ∀ i, isOf w' i → ¬ (i = id4) := fun i hi e => by
    have := bup' i hi
    rw [e] at this; omega
  have md5 := md4.stay s8 fun i hi e => by
    have := md.up i hi
    rw [e] at this; omega
  have or5 := or4.stay s8 hr4
  repeat (first
    | ((first | apply Ops.op | apply Ops.op0 | apply Drs.bar | apply Drs.pure); case e => (intro k; simp (disch := omega) only [evs, evt, Int.reduceToNat, Int.reduceEq, Int.reduceLT, Int.reduceLE, decide_true, decide_false, Nat.reduceEqDiff, Nat.reduceLT, reduceIte, cond_true, cond_false, Nat.reduceAdd, f2, f3, f4, f5]; rfl))
    | ((first | apply Ops.g1 | apply Drs.g1); case e => (simp (disch := omega) only [evs, evt, Int.reduceToNat, Int.reduceEq, Int.reduceLT, Int.reduceLE, decide_true, decide_false, Nat.reduceEqDiff, Nat.reduceLT, reduceIte, f2, f3, f4, f5]))
    | ((first | apply Ops.g0t | apply Ops.g0f | apply Drs.g0t | apply Drs.g0f); case e => (simp (disch := omega) only [evs, evt, Int.reduceToNat, Int.reduceEq, Int.reduceLT, Int.reduceLE, decide_true, decide_false, Nat.reduceEqDiff, Nat.reduceLT, reduceIte, f2, f3, f4, f5]))
    | ((first | apply Ops.g0u | apply Drs.g0u); case e => (simp (disch := omega) only [evs, evt, Int.reduceToNat, Int.reduceEq, Int.reduceLT, Int.reduceLE, decide_true, decide_false, Nat.reduceEqDiff, Nat.reduceLT, reduceIte, f2, f3, f4, f5]))
    | apply Ok.seq
    | apply Ok.block
    | (apply Ok.ops (S := Sp))
    | (apply Ok.condT; case e => (simp (disch := omega) only [evs, evt, Int.reduceToNat, Int.reduceEq, Int.reduceLT, Int.reduceLE, decide_true, decide_false, Nat.reduceEqDiff, Nat.reduceLT, reduceIte, f2, f3, f4, f5]))
    | (apply Ok.condF; case e => (simp (disch := omega) only [evs, evt, Int.reduceToNat, Int.reduceEq, Int.reduceLT, Int.reduceLE, decide_true, decide_false, Nat.reduceEqDiff, Nat.reduceLT, reduceIte, f2, f3, f4, f5]))
    | ((first | apply Ops.nil | apply Drs.nil | apply Ok.skip | apply Ok.exit | apply Ok.ret); try simp only [Then_n, Then_e, Then_r, Out_n, Out_e, Out_r, Nat.reduceEqDiff, reduceIte])
    | (apply Ok.drs (S := Sp) hmix)
    )
  refine ⟨k - (a + 1), by omega, a + 1, f', w', by omega, rfl, ?_, ?_, by simp (disch := omega) only [evs, evt, Int.reduceToNat, Int.reduceEq, Int.reduceLT, Int.reduceLE, decide_true, decide_false, Nat.reduceEqDiff, Nat.reduceLT, reduceIte, cond_true, cond_false, List.map_cons, List.map_nil, Nat.reduceAdd, f2], by simp (disch := omega) only [evs, evt, Int.reduceToNat, Int.reduceEq, Int.reduceLT, Int.reduceLE, decide_true, decide_false, Nat.reduceEqDiff, Nat.reduceLT, reduceIte, cond_true, cond_false, List.map_cons, List.map_nil, Nat.reduceAdd, f3], by simp (disch := omega) only [evs, evt, Int.reduceToNat, Int.reduceEq, Int.reduceLT, Int.reduceLE, decide_true, decide_false, Nat.reduceEqDiff, Nat.reduceLT, reduceIte, cond_true, cond_false, List.map_cons, List.map_nil, Nat.reduceAdd, f4], by simp (disch := omega) only [evs, evt, Int.reduceToNat, Int.reduceEq, Int.reduceLT, Int.reduceLE, decide_true, decide_false, Nat.reduceEqDiff, Nat.reduceLT, reduceIte, cond_true, cond_false, List.map_cons, List.map_nil, Nat.reduceAdd, f5, Int.natCast_add, Int.natCast_one], og4.stay s8 fun e => hne4 e.symm, ow5, bw4.stay s8 hw4', bup', ⟨fun i hi => ?_, fun i hi => ?_⟩, mne'⟩
  · exact sg4.past' s8 fun i hi => by rw [hi, hid4]; exact s1.next
  · exact Nat.le_trans hn7 (Nat.le_trans s7.next s8.next)
  · rcases Nat.lt_or_ge i a with h7 | h7
    · rw [hfi i h7]; exact md5.own i h7
    · have : i = a := by omega
      subst this; rw [hfa]; exact or5
  · rcases Nat.lt_or_ge i a with h7 | h7
    · rw [hfi i h7]; exact md.up i h7
    · have : i = a := by omega
      subst this; rw [hfa]; exact hrup
end Go.Proofs.Ytpnflehemjbemaa
