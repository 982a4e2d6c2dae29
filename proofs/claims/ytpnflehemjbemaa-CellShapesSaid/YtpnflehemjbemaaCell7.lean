/- The body of the law CellShapes returns true. No condition. -/
import Derived.Test.YtpnflehemjbemaaCellS
import Derived.Test.YtpnflehemjbemaaIrCell2
import Derived.Test.YtpnflehemjbemaaEvY
set_option maxRecDepth 100000
set_option maxHeartbeats 8000000
set_option linter.all false
namespace Go.Ev
open Go
theorem b2sV_refloor (h : H) (v : V) (k : V → Bool) : b2sV (reFloor h) v k = b2sV h v k := by
  unfold b2sV
  congr 1
theorem bv_cast {n : Nat} (h : n ≤ 255) : V.i .u8 (n : Int) = bv (UInt8.ofNat n) := by
  rw [← bv_ofNat, Nat.mod_eq_of_lt (by omega)]
theorem take_set1 {α : Type} (xs : List α) (j : Nat) (y : α) (h : j < xs.length) : (xs.set j y).take (j + 1) = xs.take j ++ [y] := by
  rw [List.take_succ_eq_append_getElem (by rw [List.length_set]; exact h), List.take_set_of_le (Nat.le_refl _)]
  simp
section
variable {P : Program} {S : Spec} {l : List CO} {t : F} {h : H} {K : F → H → Prop}
theorem Ops.lit4 {n el : Nat} {b : Bool} {o0 o1 o2 o3 : O} {y0 y1 y2 y3 z0 z1 z2 z3 : V} (e0 : oV o0 t = y0) (e1 : oV o1 t = y1) (e2 : oV o2 t = y2) (e3 : oV o3 t = y3)
    (k0 : knownV y0 = true) (k1 : knownV y1 = true) (k2 : knownV y2 = true) (k3 : knownV y3 = true) (c0 : cells y0 = [y0]) (c1 : cells y1 = [y1]) (c2 : cells y2 = [y2]) (c3 : cells y3 = [y3]) (hf : B.val h.floor ≤ B.val h.next)
    (k : ∀ h' id, Stay nowhere h h' → id = h.next → B.val h'.next = B.val h.next + 1 → Own h' id [y0, y1, y2, y3] → Ops P S l (put n (.l id 0 0 4 4 (some 4)) t) h' K) :
    Ops P S (.mk .none (.some (slOf n)) b (.mk (doBuildSlice el 4 [z0, z1, z2, z3] [Pt.mk 0 1 o0, Pt.mk 1 1 o1, Pt.mk 2 1 o2, Pt.mk 3 1 o3])) :: l) t h K := by
  obtain ⟨h', a1, a2, a3, a4⟩ := alloc_own el [y0, y1, y2, y3] h (by show 4 < 2 ^ 37; decide) hf
  refine Ops.op (v := .l h.next 0 0 4 4 (some 4)) (h1 := h') (fun k => ?_) (k _ h.next a2 rfl a4 a3)
  have f0 : ∀ cs (k : List V → Bool), fillL [] t cs k = k cs := fun _ _ => rfl
  have fs : ∀ (off : Nat) (o : O) (y : V) (ps : List Pt) (cs : List V) (k : List V → Bool), oV o t = y → knownV y = true → cells y = [y] → off + 1 ≤ cs.length → fillL (Pt.mk off 1 o :: ps) t cs k = fillL ps t (putAt cs off [y]) k := by
    intro off o y ps cs k e hk hc hl
    show oK o t (fillP off 1 (fillL ps) t cs k) = _
    rw [oK_eq, e]
    unfold fillP
    have e5 : Nat.ble (Nat.add off 1) cs.length = true := by rw [Nat.ble_eq]; exact hl
    rw [hk, ifK_true, hc]
    show (ifK true fun _ => ifK (Nat.ble (Nat.add off 1) cs.length) fun _ => fillL ps t (putAt cs off [y]) k) = _
    rw [ifK_true, e5, ifK_true]
  show fillL [Pt.mk 0 1 o0, Pt.mk 1 1 o1, Pt.mk 2 1 o2, Pt.mk 3 1 o3] t [z0, z1, z2, z3] (fun cs => alloc el cs h fun id h => k (.l id 0 0 4 cs.length (some 4)) h) = _
  rw [fs 0 o0 y0 _ _ _ e0 k0 c0 (by simp)]
  have p1 : putAt [z0, z1, z2, z3] 0 [y0] = [y0, z1, z2, z3] := rfl
  rw [p1, fs 1 o1 y1 _ _ _ e1 k1 c1 (by simp)]
  have p2 : putAt [y0, z1, z2, z3] 1 [y1] = [y0, y1, z2, z3] := rfl
  rw [p2, fs 2 o2 y2 _ _ _ e2 k2 c2 (by simp)]
  have p3 : putAt [y0, y1, z2, z3] 2 [y2] = [y0, y1, y2, z3] := rfl
  rw [p3, fs 3 o3 y3 _ _ _ e3 k3 c3 (by simp)]
  have p4 : putAt [y0, y1, y2, z3] 3 [y3] = [y0, y1, y2, y3] := rfl
  rw [p4, f0, a1]; rfl
end
end Go.Ev
namespace Go.Proofs.Ytpnflehemjbemaa
open Go Go.Ev

theorem cellShapes_ok {h : H} {c d q : Nat} (hc : c ≤ 255) (hd : d ≤ 255) (hq : q ≤ 255) (hf : B.val h.floor ≤ B.val h.next) :
    FnOk Try.prog 8 [.i .u8 (c : Int), .i .u8 (d : Int), .i .u8 (q : Int)] h fun y h' => y = .b true := by
  have hmix := Checked.mixed Try.checked
  refine fn_run c8 (by intro hb; cases hb) (by simp) (by simp) ?_
  simp only [slotsF, Nat.reduceAdd]
  unfold b8
  repeat (first
    | ((first | apply Ops.op | apply Ops.op0 | apply Drs.bar | apply Drs.pure); case e => (intro k; simp (disch := omega) only [evs, evt, Int.reduceToNat, Int.reduceEq, Int.reduceLT, Int.reduceLE, decide_true, decide_false, Nat.reduceEqDiff, Nat.reduceLT, reduceIte, cond_true, cond_false, List.map_cons, List.map_nil, Nat.reduceAdd]; rfl))
    | ((first | apply Ops.g1 | apply Drs.g1); case e => (simp (disch := omega) only [evs, evt, Int.reduceToNat, Int.reduceEq, Int.reduceLT, Int.reduceLE, decide_true, decide_false, Nat.reduceEqDiff, Nat.reduceLT, reduceIte, cond_true, cond_false, List.map_cons, List.map_nil, Nat.reduceAdd]))
    | ((first | apply Ops.g0t | apply Ops.g0f | apply Drs.g0t | apply Drs.g0f); case e => (simp (disch := omega) only [evs, evt, Int.reduceToNat, Int.reduceEq, Int.reduceLT, Int.reduceLE, decide_true, decide_false, Nat.reduceEqDiff, Nat.reduceLT, reduceIte, cond_true, cond_false, List.map_cons, List.map_nil, Nat.reduceAdd]))
    | ((first | apply Ops.g0u | apply Drs.g0u); case e => (simp (disch := omega) only [evs, evt, Int.reduceToNat, Int.reduceEq, Int.reduceLT, Int.reduceLE, decide_true, decide_false, Nat.reduceEqDiff, Nat.reduceLT, reduceIte, cond_true, cond_false, List.map_cons, List.map_nil, Nat.reduceAdd]))
    | apply Ok.seq
    | apply Ok.block
    | (apply Ok.ops (S := SC))
    | (apply Ok.condT; case e => (simp (disch := omega) only [evs, evt, Int.reduceToNat, Int.reduceEq, Int.reduceLT, Int.reduceLE, decide_true, decide_false, Nat.reduceEqDiff, Nat.reduceLT, reduceIte, cond_true, cond_false, List.map_cons, List.map_nil, Nat.reduceAdd]))
    | (apply Ok.condF; case e => (simp (disch := omega) only [evs, evt, Int.reduceToNat, Int.reduceEq, Int.reduceLT, Int.reduceLE, decide_true, decide_false, Nat.reduceEqDiff, Nat.reduceLT, reduceIte, cond_true, cond_false, List.map_cons, List.map_nil, Nat.reduceAdd]))
    | ((first | apply Ops.nil | apply Drs.nil | apply Ok.skip | apply Ok.exit | apply Ok.ret); try simp only [Then_n, Then_e, Then_r, Out_n, Out_e, Out_r, Nat.reduceEqDiff, reduceIte])
    | (apply Ok.drs (S := SC) hmix)
    )
  apply Ops.call
  case e => rfl
  case hf => exact sc_known
  case k =>
  rintro y h ⟨rfl, rfl⟩
  obtain ⟨n, hn⟩ : ∃ n, n = q % 8 + 1 := ⟨_, rfl⟩
  have hn8 : 1 ≤ n ∧ n ≤ 8 := by omega
  have en : ((q % 8 : Nat) : Int) + 1 = (n : Int) := by omega
  have en1 : (n : Int) + 1 = ((n + 1 : Nat) : Int) := by omega
  repeat (first
    | ((first | apply Ops.op | apply Ops.op0 | apply Drs.bar | apply Drs.pure); case e => (intro k; simp (disch := omega) only [evs, evt, Int.reduceToNat, Int.reduceEq, Int.reduceLT, Int.reduceLE, decide_true, decide_false, Nat.reduceEqDiff, Nat.reduceLT, reduceIte, cond_true, cond_false, List.map_cons, List.map_nil, Nat.reduceAdd, f_remZ, en, en1]; rfl))
    | ((first | apply Ops.g1 | apply Drs.g1); case e => (simp (disch := omega) only [evs, evt, Int.reduceToNat, Int.reduceEq, Int.reduceLT, Int.reduceLE, decide_true, decide_false, Nat.reduceEqDiff, Nat.reduceLT, reduceIte, cond_true, cond_false, List.map_cons, List.map_nil, Nat.reduceAdd, f_remZ, en, en1]))
    | ((first | apply Ops.g0t | apply Ops.g0f | apply Drs.g0t | apply Drs.g0f); case e => (simp (disch := omega) only [evs, evt, Int.reduceToNat, Int.reduceEq, Int.reduceLT, Int.reduceLE, decide_true, decide_false, Nat.reduceEqDiff, Nat.reduceLT, reduceIte, cond_true, cond_false, List.map_cons, List.map_nil, Nat.reduceAdd, f_remZ, en, en1]))
    | ((first | apply Ops.g0u | apply Drs.g0u); case e => (simp (disch := omega) only [evs, evt, Int.reduceToNat, Int.reduceEq, Int.reduceLT, Int.reduceLE, decide_true, decide_false, Nat.reduceEqDiff, Nat.reduceLT, reduceIte, cond_true, cond_false, List.map_cons, List.map_nil, Nat.reduceAdd, f_remZ, en, en1]))
    | apply Ok.seq
    | apply Ok.block
    | (apply Ok.ops (S := SC))
    | (apply Ok.condT; case e => (simp (disch := omega) only [evs, evt, Int.reduceToNat, Int.reduceEq, Int.reduceLT, Int.reduceLE, decide_true, decide_false, Nat.reduceEqDiff, Nat.reduceLT, reduceIte, cond_true, cond_false, List.map_cons, List.map_nil, Nat.reduceAdd, f_remZ, en, en1]))
    | (apply Ok.condF; case e => (simp (disch := omega) only [evs, evt, Int.reduceToNat, Int.reduceEq, Int.reduceLT, Int.reduceLE, decide_true, decide_false, Nat.reduceEqDiff, Nat.reduceLT, reduceIte, cond_true, cond_false, List.map_cons, List.map_nil, Nat.reduceAdd, f_remZ, en, en1]))
    | ((first | apply Ops.nil | apply Drs.nil | apply Ok.skip | apply Ok.exit | apply Ok.ret); try simp only [Then_n, Then_e, Then_r, Out_n, Out_e, Out_r, Nat.reduceEqDiff, reduceIte])
    | (apply Ok.drs (S := SC) hmix)
    )
  refine Ops.forget (fun t => get 0 t = .i .u8 (c : Int) ∧ get 1 t = .i .u8 (d : Int) ∧ get 7 t = .i .i64 (n : Int) ∧ get 24 t = .i .i64 ((n + 1 : Nat) : Int)) ⟨by simp (disch := omega) only [evs, evt, Int.reduceToNat, Int.reduceEq, Int.reduceLT, Int.reduceLE, decide_true, decide_false, Nat.reduceEqDiff, Nat.reduceLT, reduceIte, cond_true, cond_false, List.map_cons, List.map_nil, Nat.reduceAdd], by simp (disch := omega) only [evs, evt, Int.reduceToNat, Int.reduceEq, Int.reduceLT, Int.reduceLE, decide_true, decide_false, Nat.reduceEqDiff, Nat.reduceLT, reduceIte, cond_true, cond_false, List.map_cons, List.map_nil, Nat.reduceAdd], by simp (disch := omega) only [evs, evt, Int.reduceToNat, Int.reduceEq, Int.reduceLT, Int.reduceLE, decide_true, decide_false, Nat.reduceEqDiff, Nat.reduceLT, reduceIte, cond_true, cond_false, List.map_cons, List.map_nil, Nat.reduceAdd], by simp (disch := omega) only [evs, evt, Int.reduceToNat, Int.reduceEq, Int.reduceLT, Int.reduceLE, decide_true, decide_false, Nat.reduceEqDiff, Nat.reduceLT, reduceIte, cond_true, cond_false, List.map_cons, List.map_nil, Nat.reduceAdd]⟩ ?_
  rintro t ⟨f0, f1, f7, f24⟩
  apply Ops.mkSlice (a := n + 1) (b := n + 1) (kd := .i64) (kd' := .i64)
  case e1 => (simp (disch := omega) only [evs, evt, Int.reduceToNat, Int.reduceEq, Int.reduceLT, Int.reduceLE, decide_true, decide_false, Nat.reduceEqDiff, Nat.reduceLT, reduceIte, cond_true, cond_false, List.map_cons, List.map_nil, Nat.reduceAdd, f24])
  case e2 => (simp (disch := omega) only [evs, evt, Int.reduceToNat, Int.reduceEq, Int.reduceLT, Int.reduceLE, decide_true, decide_false, Nat.reduceEqDiff, Nat.reduceLT, reduceIte, cond_true, cond_false, List.map_cons, List.map_nil, Nat.reduceAdd, f24])
  case hab => exact Nat.le_refl _
  case hb => omega
  case hf => exact hf
  case k =>
  intro h1 id s1 hid hnx o1
  have hf1 := s1.fl hf
  repeat (first
    | ((first | apply Ops.op | apply Ops.op0 | apply Drs.bar | apply Drs.pure); case e => (intro k; simp (disch := omega) only [evs, evt, Int.reduceToNat, Int.reduceEq, Int.reduceLT, Int.reduceLE, decide_true, decide_false, Nat.reduceEqDiff, Nat.reduceLT, reduceIte, cond_true, cond_false, List.map_cons, List.map_nil, Nat.reduceAdd, f0, f1, f7, u8_wrap, own_idx]; rfl))
    | ((first | apply Ops.g1 | apply Drs.g1); case e => (simp (disch := omega) only [evs, evt, Int.reduceToNat, Int.reduceEq, Int.reduceLT, Int.reduceLE, decide_true, decide_false, Nat.reduceEqDiff, Nat.reduceLT, reduceIte, cond_true, cond_false, List.map_cons, List.map_nil, Nat.reduceAdd, f0, f1, f7, u8_wrap, own_idx]))
    | ((first | apply Ops.g0t | apply Ops.g0f | apply Drs.g0t | apply Drs.g0f); case e => (simp (disch := omega) only [evs, evt, Int.reduceToNat, Int.reduceEq, Int.reduceLT, Int.reduceLE, decide_true, decide_false, Nat.reduceEqDiff, Nat.reduceLT, reduceIte, cond_true, cond_false, List.map_cons, List.map_nil, Nat.reduceAdd, f0, f1, f7, u8_wrap, own_idx]))
    | ((first | apply Ops.g0u | apply Drs.g0u); case e => (simp (disch := omega) only [evs, evt, Int.reduceToNat, Int.reduceEq, Int.reduceLT, Int.reduceLE, decide_true, decide_false, Nat.reduceEqDiff, Nat.reduceLT, reduceIte, cond_true, cond_false, List.map_cons, List.map_nil, Nat.reduceAdd, f0, f1, f7, u8_wrap, own_idx]))
    | apply Ok.seq
    | apply Ok.block
    | (apply Ok.ops (S := SC))
    | (apply Ok.condT; case e => (simp (disch := omega) only [evs, evt, Int.reduceToNat, Int.reduceEq, Int.reduceLT, Int.reduceLE, decide_true, decide_false, Nat.reduceEqDiff, Nat.reduceLT, reduceIte, cond_true, cond_false, List.map_cons, List.map_nil, Nat.reduceAdd, f0, f1, f7, u8_wrap, own_idx]))
    | (apply Ok.condF; case e => (simp (disch := omega) only [evs, evt, Int.reduceToNat, Int.reduceEq, Int.reduceLT, Int.reduceLE, decide_true, decide_false, Nat.reduceEqDiff, Nat.reduceLT, reduceIte, cond_true, cond_false, List.map_cons, List.map_nil, Nat.reduceAdd, f0, f1, f7, u8_wrap, own_idx]))
    | ((first | apply Ops.nil | apply Drs.nil | apply Ok.skip | apply Ok.exit | apply Ok.ret); try simp only [Then_n, Then_e, Then_r, Out_n, Out_e, Out_r, Nat.reduceEqDiff, reduceIte])
    | (apply Ok.drs (S := SC) hmix)
    )
  apply Ops.store (y := bv (UInt8.ofNat n)) (xs := List.replicate (n + 1) (.i .u8 0)) (j := 0) (id := id) (fin := n + 1)
  case e1 => (simp (disch := omega) only [evs, evt, Int.reduceToNat, Int.reduceEq, Int.reduceLT, Int.reduceLE, decide_true, decide_false, Nat.reduceEqDiff, Nat.reduceLT, reduceIte, cond_true, cond_false, List.map_cons, List.map_nil, Nat.reduceAdd])
  case e2 => (simp (disch := omega) only [evs, evt, Int.reduceToNat, Int.reduceEq, Int.reduceLT, Int.reduceLE, decide_true, decide_false, Nat.reduceEqDiff, Nat.reduceLT, reduceIte, cond_true, cond_false, List.map_cons, List.map_nil, Nat.reduceAdd, bv_ofNat]; rfl)
  case ho => exact o1
  case hj => omega
  case hfit => omega
  case h1 => rfl
  case k =>
  intro h2 o2 s2
  repeat (first
    | ((first | apply Ops.op | apply Ops.op0 | apply Drs.bar | apply Drs.pure); case e => (intro k; simp (disch := omega) only [evs, evt, Int.reduceToNat, Int.reduceEq, Int.reduceLT, Int.reduceLE, decide_true, decide_false, Nat.reduceEqDiff, Nat.reduceLT, reduceIte, cond_true, cond_false, List.map_cons, List.map_nil, Nat.reduceAdd, f0, f1, f7, u8_wrap, own_idx]; rfl))
    | ((first | apply Ops.g1 | apply Drs.g1); case e => (simp (disch := omega) only [evs, evt, Int.reduceToNat, Int.reduceEq, Int.reduceLT, Int.reduceLE, decide_true, decide_false, Nat.reduceEqDiff, Nat.reduceLT, reduceIte, cond_true, cond_false, List.map_cons, List.map_nil, Nat.reduceAdd, f0, f1, f7, u8_wrap, own_idx]))
    | ((first | apply Ops.g0t | apply Ops.g0f | apply Drs.g0t | apply Drs.g0f); case e => (simp (disch := omega) only [evs, evt, Int.reduceToNat, Int.reduceEq, Int.reduceLT, Int.reduceLE, decide_true, decide_false, Nat.reduceEqDiff, Nat.reduceLT, reduceIte, cond_true, cond_false, List.map_cons, List.map_nil, Nat.reduceAdd, f0, f1, f7, u8_wrap, own_idx]))
    | ((first | apply Ops.g0u | apply Drs.g0u); case e => (simp (disch := omega) only [evs, evt, Int.reduceToNat, Int.reduceEq, Int.reduceLT, Int.reduceLE, decide_true, decide_false, Nat.reduceEqDiff, Nat.reduceLT, reduceIte, cond_true, cond_false, List.map_cons, List.map_nil, Nat.reduceAdd, f0, f1, f7, u8_wrap, own_idx]))
    | apply Ok.seq
    | apply Ok.block
    | (apply Ok.ops (S := SC))
    | (apply Ok.condT; case e => (simp (disch := omega) only [evs, evt, Int.reduceToNat, Int.reduceEq, Int.reduceLT, Int.reduceLE, decide_true, decide_false, Nat.reduceEqDiff, Nat.reduceLT, reduceIte, cond_true, cond_false, List.map_cons, List.map_nil, Nat.reduceAdd, f0, f1, f7, u8_wrap, own_idx]))
    | (apply Ok.condF; case e => (simp (disch := omega) only [evs, evt, Int.reduceToNat, Int.reduceEq, Int.reduceLT, Int.reduceLE, decide_true, decide_false, Nat.reduceEqDiff, Nat.reduceLT, reduceIte, cond_true, cond_false, List.map_cons, List.map_nil, Nat.reduceAdd, f0, f1, f7, u8_wrap, own_idx]))
    | ((first | apply Ops.nil | apply Drs.nil | apply Ok.skip | apply Ok.exit | apply Ok.ret); try simp only [Then_n, Then_e, Then_r, Out_n, Out_e, Out_r, Nat.reduceEqDiff, reduceIte])
    | (apply Ok.drs (S := SC) hmix)
    )
  apply Ops.store (y := bv (UInt8.ofNat c)) (xs := (List.replicate (n + 1) (V.i .u8 0)).set 0 (bv (UInt8.ofNat n))) (j := 1) (id := id) (fin := n + 1)
  case e1 => (simp (disch := omega) only [evs, evt, Int.reduceToNat, Int.reduceEq, Int.reduceLT, Int.reduceLE, decide_true, decide_false, Nat.reduceEqDiff, Nat.reduceLT, reduceIte, cond_true, cond_false, List.map_cons, List.map_nil, Nat.reduceAdd])
  case e2 => (simp (disch := omega) only [evs, evt, Int.reduceToNat, Int.reduceEq, Int.reduceLT, Int.reduceLE, decide_true, decide_false, Nat.reduceEqDiff, Nat.reduceLT, reduceIte, cond_true, cond_false, List.map_cons, List.map_nil, Nat.reduceAdd, f0, bv_cast]; rfl)
  case ho => exact o2
  case hj => omega
  case hfit => omega
  case h1 => rfl
  case k =>
  intro h3 o3 s3
  have st3 : Stay nowhere h h3 := (s1.past' s2 fun i hi => by rw [hi, hid]; exact Nat.le_refl _).past' s3 fun i hi => by rw [hi, hid]; exact Nat.le_refl _
  obtain ⟨xs0, hxs0⟩ : ∃ xs0, xs0 = ((List.replicate (n + 1) (V.i .u8 0)).set 0 (bv (UInt8.ofNat n))).set 1 (bv (UInt8.ofNat c)) := ⟨_, rfl⟩
  rw [← hxs0] at o3
  have hx0 : xs0.length = n + 1 := by rw [hxs0]; simp
  have ht0 : xs0.take 2 = [UInt8.ofNat n, UInt8.ofNat c].map bv := by
    rw [hxs0, take_set1 _ 1 _ (by simp; omega), take_set1 _ 0 _ (by simp)]; rfl
  clear hxs0
  repeat (first
    | ((first | apply Ops.op | apply Ops.op0 | apply Drs.bar | apply Drs.pure); case e => (intro k; simp (disch := omega) only [evs, evt, Int.reduceToNat, Int.reduceEq, Int.reduceLT, Int.reduceLE, decide_true, decide_false, Nat.reduceEqDiff, Nat.reduceLT, reduceIte, cond_true, cond_false, List.map_cons, List.map_nil, Nat.reduceAdd, f0, f1, f7]; rfl))
    | ((first | apply Ops.g1 | apply Drs.g1); case e => (simp (disch := omega) only [evs, evt, Int.reduceToNat, Int.reduceEq, Int.reduceLT, Int.reduceLE, decide_true, decide_false, Nat.reduceEqDiff, Nat.reduceLT, reduceIte, cond_true, cond_false, List.map_cons, List.map_nil, Nat.reduceAdd, f0, f1, f7]))
    | ((first | apply Ops.g0t | apply Ops.g0f | apply Drs.g0t | apply Drs.g0f); case e => (simp (disch := omega) only [evs, evt, Int.reduceToNat, Int.reduceEq, Int.reduceLT, Int.reduceLE, decide_true, decide_false, Nat.reduceEqDiff, Nat.reduceLT, reduceIte, cond_true, cond_false, List.map_cons, List.map_nil, Nat.reduceAdd, f0, f1, f7]))
    | ((first | apply Ops.g0u | apply Drs.g0u); case e => (simp (disch := omega) only [evs, evt, Int.reduceToNat, Int.reduceEq, Int.reduceLT, Int.reduceLE, decide_true, decide_false, Nat.reduceEqDiff, Nat.reduceLT, reduceIte, cond_true, cond_false, List.map_cons, List.map_nil, Nat.reduceAdd, f0, f1, f7]))
    | apply Ok.seq
    | apply Ok.block
    | (apply Ok.ops (S := SC))
    | (apply Ok.condT; case e => (simp (disch := omega) only [evs, evt, Int.reduceToNat, Int.reduceEq, Int.reduceLT, Int.reduceLE, decide_true, decide_false, Nat.reduceEqDiff, Nat.reduceLT, reduceIte, cond_true, cond_false, List.map_cons, List.map_nil, Nat.reduceAdd, f0, f1, f7]))
    | (apply Ok.condF; case e => (simp (disch := omega) only [evs, evt, Int.reduceToNat, Int.reduceEq, Int.reduceLT, Int.reduceLE, decide_true, decide_false, Nat.reduceEqDiff, Nat.reduceLT, reduceIte, cond_true, cond_false, List.map_cons, List.map_nil, Nat.reduceAdd, f0, f1, f7]))
    | ((first | apply Ops.nil | apply Drs.nil | apply Ok.skip | apply Ok.exit | apply Ok.ret); try simp only [Then_n, Then_e, Then_r, Out_n, Out_e, Out_r, Nat.reduceEqDiff, reduceIte])
    | (apply Ok.drs (S := SC) hmix)
    )
  refine Ok.loop (fun m t g => ∃ (i : Nat) (xs : List V), 2 ≤ i ∧ i ≤ n + 1 ∧ m = n + 1 - i ∧ Stay nowhere h g ∧ Own g id xs ∧ xs.length = n + 1 ∧ xs.take i = (UInt8.ofNat n :: UInt8.ofNat c :: List.replicate (i - 2) (UInt8.ofNat d)).map bv ∧ get 0 t = .i .u8 (c : Int) ∧ get 1 t = .i .u8 (d : Int) ∧ get 7 t = .i .i64 (n : Int) ∧ get 8 t = .l id 0 0 (n + 1) (n + 1) (some (n + 1)) ∧ get 9 t = .i .i64 (i : Int)) ?_ (n + 1 - 2) _ _ ?_
  · rintro m t g ⟨i, xs, h2, hi, rfl, st, o, hx, hxt, a0, a1, a7, a8, a9⟩
    unfold l8_0
    repeat (first
      | ((first | apply Ops.op | apply Ops.op0 | apply Drs.bar | apply Drs.pure); case e => (intro k; simp (disch := omega) only [evs, evt, Int.reduceToNat, Int.reduceEq, Int.reduceLT, Int.reduceLE, decide_true, decide_false, Nat.reduceEqDiff, Nat.reduceLT, reduceIte, cond_true, cond_false, List.map_cons, List.map_nil, Nat.reduceAdd, a0, a1, a7, a8, a9]; rfl))
      | ((first | apply Ops.g1 | apply Drs.g1); case e => (simp (disch := omega) only [evs, evt, Int.reduceToNat, Int.reduceEq, Int.reduceLT, Int.reduceLE, decide_true, decide_false, Nat.reduceEqDiff, Nat.reduceLT, reduceIte, cond_true, cond_false, List.map_cons, List.map_nil, Nat.reduceAdd, a0, a1, a7, a8, a9]))
      | ((first | apply Ops.g0t | apply Ops.g0f | apply Drs.g0t | apply Drs.g0f); case e => (simp (disch := omega) only [evs, evt, Int.reduceToNat, Int.reduceEq, Int.reduceLT, Int.reduceLE, decide_true, decide_false, Nat.reduceEqDiff, Nat.reduceLT, reduceIte, cond_true, cond_false, List.map_cons, List.map_nil, Nat.reduceAdd, a0, a1, a7, a8, a9]))
      | ((first | apply Ops.g0u | apply Drs.g0u); case e => (simp (disch := omega) only [evs, evt, Int.reduceToNat, Int.reduceEq, Int.reduceLT, Int.reduceLE, decide_true, decide_false, Nat.reduceEqDiff, Nat.reduceLT, reduceIte, cond_true, cond_false, List.map_cons, List.map_nil, Nat.reduceAdd, a0, a1, a7, a8, a9]))
      | apply Ok.seq
      | apply Ok.block
      | (apply Ok.ops (S := SC))
      | (apply Ok.condT; case e => (simp (disch := omega) only [evs, evt, Int.reduceToNat, Int.reduceEq, Int.reduceLT, Int.reduceLE, decide_true, decide_false, Nat.reduceEqDiff, Nat.reduceLT, reduceIte, cond_true, cond_false, List.map_cons, List.map_nil, Nat.reduceAdd, a0, a1, a7, a8, a9]))
      | (apply Ok.condF; case e => (simp (disch := omega) only [evs, evt, Int.reduceToNat, Int.reduceEq, Int.reduceLT, Int.reduceLE, decide_true, decide_false, Nat.reduceEqDiff, Nat.reduceLT, reduceIte, cond_true, cond_false, List.map_cons, List.map_nil, Nat.reduceAdd, a0, a1, a7, a8, a9]))
      | ((first | apply Ops.nil | apply Drs.nil | apply Ok.skip | apply Ok.exit | apply Ok.ret); try simp only [Then_n, Then_e, Then_r, Out_n, Out_e, Out_r, Nat.reduceEqDiff, reduceIte])
      | (apply Ok.drs (S := SC) hmix)
      )
    apply Ok.cond
    case hq => (simp (disch := omega) only [evs, evt, Int.reduceToNat, Int.reduceEq, Int.reduceLT, Int.reduceLE, decide_true, decide_false, Nat.reduceEqDiff, Nat.reduceLT, reduceIte, cond_true, cond_false, List.map_cons, List.map_nil, Nat.reduceAdd, a7, a9]; rfl)
    case ha =>
      intro hcc
      have hcc := of_decide_eq_true hcc
      have hii : i < n + 1 := by omega
      repeat (first
        | ((first | apply Ops.op | apply Ops.op0 | apply Drs.bar | apply Drs.pure); case e => (intro k; simp (disch := omega) only [evs, evt, Int.reduceToNat, Int.reduceEq, Int.reduceLT, Int.reduceLE, decide_true, decide_false, Nat.reduceEqDiff, Nat.reduceLT, reduceIte, cond_true, cond_false, List.map_cons, List.map_nil, Nat.reduceAdd, a0, a1, a7, a8, a9, own_idx]; rfl))
        | ((first | apply Ops.g1 | apply Drs.g1); case e => (simp (disch := omega) only [evs, evt, Int.reduceToNat, Int.reduceEq, Int.reduceLT, Int.reduceLE, decide_true, decide_false, Nat.reduceEqDiff, Nat.reduceLT, reduceIte, cond_true, cond_false, List.map_cons, List.map_nil, Nat.reduceAdd, a0, a1, a7, a8, a9, own_idx]))
        | ((first | apply Ops.g0t | apply Ops.g0f | apply Drs.g0t | apply Drs.g0f); case e => (simp (disch := omega) only [evs, evt, Int.reduceToNat, Int.reduceEq, Int.reduceLT, Int.reduceLE, decide_true, decide_false, Nat.reduceEqDiff, Nat.reduceLT, reduceIte, cond_true, cond_false, List.map_cons, List.map_nil, Nat.reduceAdd, a0, a1, a7, a8, a9, own_idx]))
        | ((first | apply Ops.g0u | apply Drs.g0u); case e => (simp (disch := omega) only [evs, evt, Int.reduceToNat, Int.reduceEq, Int.reduceLT, Int.reduceLE, decide_true, decide_false, Nat.reduceEqDiff, Nat.reduceLT, reduceIte, cond_true, cond_false, List.map_cons, List.map_nil, Nat.reduceAdd, a0, a1, a7, a8, a9, own_idx]))
        | apply Ok.seq
        | apply Ok.block
        | (apply Ok.ops (S := SC))
        | (apply Ok.condT; case e => (simp (disch := omega) only [evs, evt, Int.reduceToNat, Int.reduceEq, Int.reduceLT, Int.reduceLE, decide_true, decide_false, Nat.reduceEqDiff, Nat.reduceLT, reduceIte, cond_true, cond_false, List.map_cons, List.map_nil, Nat.reduceAdd, a0, a1, a7, a8, a9, own_idx]))
        | (apply Ok.condF; case e => (simp (disch := omega) only [evs, evt, Int.reduceToNat, Int.reduceEq, Int.reduceLT, Int.reduceLE, decide_true, decide_false, Nat.reduceEqDiff, Nat.reduceLT, reduceIte, cond_true, cond_false, List.map_cons, List.map_nil, Nat.reduceAdd, a0, a1, a7, a8, a9, own_idx]))
        | ((first | apply Ops.nil | apply Drs.nil | apply Ok.skip | apply Ok.exit | apply Ok.ret); try simp only [Then_n, Then_e, Then_r, Out_n, Out_e, Out_r, Nat.reduceEqDiff, reduceIte])
        | (apply Ok.drs (S := SC) hmix)
        )
      apply Ops.store (y := bv (UInt8.ofNat d)) (xs := xs) (j := i) (id := id) (fin := n + 1)
      case e1 => (simp (disch := omega) only [evs, evt, Int.reduceToNat, Int.reduceEq, Int.reduceLT, Int.reduceLE, decide_true, decide_false, Nat.reduceEqDiff, Nat.reduceLT, reduceIte, cond_true, cond_false, List.map_cons, List.map_nil, Nat.reduceAdd])
      case e2 => (simp (disch := omega) only [evs, evt, Int.reduceToNat, Int.reduceEq, Int.reduceLT, Int.reduceLE, decide_true, decide_false, Nat.reduceEqDiff, Nat.reduceLT, reduceIte, cond_true, cond_false, List.map_cons, List.map_nil, Nat.reduceAdd, bv_cast]; rfl)
      case ho => exact o
      case hj => omega
      case hfit => omega
      case h1 => rfl
      case k =>
      intro g' o' s'
      repeat (first
        | ((first | apply Ops.op | apply Ops.op0 | apply Drs.bar | apply Drs.pure); case e => (intro k; simp (disch := omega) only [evs, evt, Int.reduceToNat, Int.reduceEq, Int.reduceLT, Int.reduceLE, decide_true, decide_false, Nat.reduceEqDiff, Nat.reduceLT, reduceIte, cond_true, cond_false, List.map_cons, List.map_nil, Nat.reduceAdd, a0, a1, a7, a8, a9]; rfl))
        | ((first | apply Ops.g1 | apply Drs.g1); case e => (simp (disch := omega) only [evs, evt, Int.reduceToNat, Int.reduceEq, Int.reduceLT, Int.reduceLE, decide_true, decide_false, Nat.reduceEqDiff, Nat.reduceLT, reduceIte, cond_true, cond_false, List.map_cons, List.map_nil, Nat.reduceAdd, a0, a1, a7, a8, a9]))
        | ((first | apply Ops.g0t | apply Ops.g0f | apply Drs.g0t | apply Drs.g0f); case e => (simp (disch := omega) only [evs, evt, Int.reduceToNat, Int.reduceEq, Int.reduceLT, Int.reduceLE, decide_true, decide_false, Nat.reduceEqDiff, Nat.reduceLT, reduceIte, cond_true, cond_false, List.map_cons, List.map_nil, Nat.reduceAdd, a0, a1, a7, a8, a9]))
        | ((first | apply Ops.g0u | apply Drs.g0u); case e => (simp (disch := omega) only [evs, evt, Int.reduceToNat, Int.reduceEq, Int.reduceLT, Int.reduceLE, decide_true, decide_false, Nat.reduceEqDiff, Nat.reduceLT, reduceIte, cond_true, cond_false, List.map_cons, List.map_nil, Nat.reduceAdd, a0, a1, a7, a8, a9]))
        | apply Ok.seq
        | apply Ok.block
        | (apply Ok.ops (S := SC))
        | (apply Ok.condT; case e => (simp (disch := omega) only [evs, evt, Int.reduceToNat, Int.reduceEq, Int.reduceLT, Int.reduceLE, decide_true, decide_false, Nat.reduceEqDiff, Nat.reduceLT, reduceIte, cond_true, cond_false, List.map_cons, List.map_nil, Nat.reduceAdd, a0, a1, a7, a8, a9]))
        | (apply Ok.condF; case e => (simp (disch := omega) only [evs, evt, Int.reduceToNat, Int.reduceEq, Int.reduceLT, Int.reduceLE, decide_true, decide_false, Nat.reduceEqDiff, Nat.reduceLT, reduceIte, cond_true, cond_false, List.map_cons, List.map_nil, Nat.reduceAdd, a0, a1, a7, a8, a9]))
        | ((first | apply Ops.nil | apply Drs.nil | apply Ok.skip | apply Ok.exit | apply Ok.ret); try simp only [Then_n, Then_e, Then_r, Out_n, Out_e, Out_r, Nat.reduceEqDiff, reduceIte])
        | (apply Ok.drs (S := SC) hmix)
        )
      refine ⟨n + 1 - (i + 1), by omega, i + 1, _, by omega, by omega, rfl, st.past' s' fun j hj => by rw [hj, hid]; exact Nat.le_refl _, o', by rw [List.length_set]; exact hx, ?_, by simp (disch := omega) only [evs, evt, Int.reduceToNat, Int.reduceEq, Int.reduceLT, Int.reduceLE, decide_true, decide_false, Nat.reduceEqDiff, Nat.reduceLT, reduceIte, cond_true, cond_false, List.map_cons, List.map_nil, Nat.reduceAdd, a0], by simp (disch := omega) only [evs, evt, Int.reduceToNat, Int.reduceEq, Int.reduceLT, Int.reduceLE, decide_true, decide_false, Nat.reduceEqDiff, Nat.reduceLT, reduceIte, cond_true, cond_false, List.map_cons, List.map_nil, Nat.reduceAdd, a1], by simp (disch := omega) only [evs, evt, Int.reduceToNat, Int.reduceEq, Int.reduceLT, Int.reduceLE, decide_true, decide_false, Nat.reduceEqDiff, Nat.reduceLT, reduceIte, cond_true, cond_false, List.map_cons, List.map_nil, Nat.reduceAdd, a7], by simp (disch := omega) only [evs, evt, Int.reduceToNat, Int.reduceEq, Int.reduceLT, Int.reduceLE, decide_true, decide_false, Nat.reduceEqDiff, Nat.reduceLT, reduceIte, cond_true, cond_false, List.map_cons, List.map_nil, Nat.reduceAdd, a8], by simp (disch := omega) only [evs, evt, Int.reduceToNat, Int.reduceEq, Int.reduceLT, Int.reduceLE, decide_true, decide_false, Nat.reduceEqDiff, Nat.reduceLT, reduceIte, cond_true, cond_false, List.map_cons, List.map_nil, Nat.reduceAdd, a9, Int.natCast_add, Int.natCast_one]⟩
      rw [take_set1 _ _ _ (by omega), hxt, show i + 1 - 2 = i - 2 + 1 by omega, List.replicate_succ']
      simp
    case hb =>
      intro hcc
      have hcc := of_decide_eq_false hcc
      have : i = n + 1 := by omega
      subst this
      have hxs : xs = (UInt8.ofNat n :: UInt8.ofNat c :: List.replicate (n - 1) (UInt8.ofNat d)).map bv := by
        rw [← show n + 1 - 2 = n - 1 by omega, ← hxt, List.take_of_length_le (by omega)]
      obtain ⟨D, hD⟩ : ∃ D, D = UInt8.ofNat c :: List.replicate (n - 1) (UInt8.ofNat d) := ⟨_, rfl⟩
      rw [← hD] at hxs
      have hDl : D.length = n := by rw [hD]; simp; omega
      have hfg := st.fl hf
      have oL := o.lst (some (n + 1))
      rw [hx, hxs] at oL
      have hb := b2s_lst oL (by simp)
      have hwn : (UInt8.ofNat n).toNat = n := by simp; omega
      have hwc : (UInt8.ofNat c).toNat = c := by simp; omega
      have htk : D.take (UInt8.ofNat n).toNat = D := by rw [hwn, ← hDl, List.take_length]
      have hg0 : D.getD 0 0 = UInt8.ofNat c := by rw [hD]; rfl
      have hbad : Unit → (badD D ↔ (0 < n ∧ c = 0) ∨ (n = 8 ∧ 128 ≤ c)) := fun _ => by
        have := badD_iff (r := D) (k := (UInt8.ofNat n).toNat) (by omega) (by omega)
        rwa [htk, hg0, hwn, hwc] at this
      have hr9 : 9 + ((d % 247 : Nat) : Int) = ((9 + d % 247 : Nat) : Int) := by omega
      have h9 : 9 + d % 247 ≤ 255 := by omega
      have hw9 : (UInt8.ofNat (9 + d % 247)).toNat = 9 + d % 247 := by simp; omega
      have h9m : (9 + d % 247) % 256 = 9 + d % 247 := Nat.mod_eq_of_lt (by omega)
      repeat (first
        | ((first | apply Ops.op | apply Ops.op0 | apply Drs.bar | apply Drs.pure); case e => (intro k; simp (disch := omega) only [evs, evt, Int.reduceToNat, Int.reduceEq, Int.reduceLT, Int.reduceLE, decide_true, decide_false, Nat.reduceEqDiff, Nat.reduceLT, reduceIte, cond_true, cond_false, List.map_cons, List.map_nil, Nat.reduceAdd, a0, a1, a7, a8, a9, hb]; rfl))
        | ((first | apply Ops.g1 | apply Drs.g1); case e => (simp (disch := omega) only [evs, evt, Int.reduceToNat, Int.reduceEq, Int.reduceLT, Int.reduceLE, decide_true, decide_false, Nat.reduceEqDiff, Nat.reduceLT, reduceIte, cond_true, cond_false, List.map_cons, List.map_nil, Nat.reduceAdd, a0, a1, a7, a8, a9, hb]))
        | ((first | apply Ops.g0t | apply Ops.g0f | apply Drs.g0t | apply Drs.g0f); case e => (simp (disch := omega) only [evs, evt, Int.reduceToNat, Int.reduceEq, Int.reduceLT, Int.reduceLE, decide_true, decide_false, Nat.reduceEqDiff, Nat.reduceLT, reduceIte, cond_true, cond_false, List.map_cons, List.map_nil, Nat.reduceAdd, a0, a1, a7, a8, a9, hb]))
        | ((first | apply Ops.g0u | apply Drs.g0u); case e => (simp (disch := omega) only [evs, evt, Int.reduceToNat, Int.reduceEq, Int.reduceLT, Int.reduceLE, decide_true, decide_false, Nat.reduceEqDiff, Nat.reduceLT, reduceIte, cond_true, cond_false, List.map_cons, List.map_nil, Nat.reduceAdd, a0, a1, a7, a8, a9, hb]))
        | apply Ok.seq
        | apply Ok.block
        | (apply Ok.ops (S := SC))
        | (apply Ok.condT; case e => (simp (disch := omega) only [evs, evt, Int.reduceToNat, Int.reduceEq, Int.reduceLT, Int.reduceLE, decide_true, decide_false, Nat.reduceEqDiff, Nat.reduceLT, reduceIte, cond_true, cond_false, List.map_cons, List.map_nil, Nat.reduceAdd, a0, a1, a7, a8, a9, hb]))
        | (apply Ok.condF; case e => (simp (disch := omega) only [evs, evt, Int.reduceToNat, Int.reduceEq, Int.reduceLT, Int.reduceLE, decide_true, decide_false, Nat.reduceEqDiff, Nat.reduceLT, reduceIte, cond_true, cond_false, List.map_cons, List.map_nil, Nat.reduceAdd, a0, a1, a7, a8, a9, hb]))
        | ((first | apply Ops.nil | apply Drs.nil | apply Ok.skip | apply Ok.exit | apply Ok.ret); try simp only [Then_n, Then_e, Then_r, Out_n, Out_e, Out_r, Nat.reduceEqDiff, reduceIte])
        | (apply Ok.drs (S := SC) hmix)
        )
      apply Ops.call
      case e => (simp (disch := omega) only [evs, evt, Int.reduceToNat, Int.reduceEq, Int.reduceLT, Int.reduceLE, decide_true, decide_false, Nat.reduceEqDiff, Nat.reduceLT, reduceIte, cond_true, cond_false, List.map_cons, List.map_nil, Nat.reduceAdd]; rfl)
      case hf => exact sc_takeNum (by simp only [List.length_cons]; omega)
      case k =>
      intro y g hy
      obtain ⟨rfl, rfl⟩ := hy _ rfl
      -- the second text
      have second : ∀ (g1 : H) (id1 : B), Own g1 id1 [bv (UInt8.ofNat (9 + d % 247)), .i .u8 1, .i .u8 2, .i .u8 3] → ∀ k : V → Bool, b2sV g1 (.l id1 0 0 4 4 (some 4)) k = k (sv [UInt8.ofNat (9 + d % 247), 1, 2, 3]) := fun g1 id1 o4 k => by
        have := o4.lst (some 4)
        exact b2s_lst (l := [UInt8.ofNat (9 + d % 247), 1, 2, 3]) this (by simp) k
      have big : takeN [UInt8.ofNat (9 + d % 247), 1, 2, 3] = (0, 0, 10) := takeN_big (by omega)
      by_cases bad : badD D
      · rw [takeN_bad (by omega) (by omega) (by rw [htk]; exact bad)]
        have hcase := (hbad ()).1 bad
        clear hbad
        unfold tri
        have d1 : decide ((c : Int) = 0) = decide (c = 0) := by by_cases h0 : c = 0 <;> simp [h0]
        rcases hcase with ⟨_, h0⟩ | ⟨h8, h128⟩
        · have dc : decide ((c : Int) = 0) = true := decide_eq_true (by omega)
          repeat (first
            | ((first | apply Ops.op | apply Ops.op0 | apply Drs.bar | apply Drs.pure); case e => (intro k; simp (disch := omega) only [evs, evt, Int.reduceToNat, Int.reduceEq, Int.reduceLT, Int.reduceLE, decide_true, decide_false, Nat.reduceEqDiff, Nat.reduceLT, reduceIte, cond_true, cond_false, List.map_cons, List.map_nil, Nat.reduceAdd, a0, a1, a7, a8, a9, dc, f_remZ, u8_wrap, hr9, h9m]; rfl))
            | ((first | apply Ops.g1 | apply Drs.g1); case e => (simp (disch := omega) only [evs, evt, Int.reduceToNat, Int.reduceEq, Int.reduceLT, Int.reduceLE, decide_true, decide_false, Nat.reduceEqDiff, Nat.reduceLT, reduceIte, cond_true, cond_false, List.map_cons, List.map_nil, Nat.reduceAdd, a0, a1, a7, a8, a9, dc, f_remZ, u8_wrap, hr9, h9m]))
            | ((first | apply Ops.g0t | apply Ops.g0f | apply Drs.g0t | apply Drs.g0f); case e => (simp (disch := omega) only [evs, evt, Int.reduceToNat, Int.reduceEq, Int.reduceLT, Int.reduceLE, decide_true, decide_false, Nat.reduceEqDiff, Nat.reduceLT, reduceIte, cond_true, cond_false, List.map_cons, List.map_nil, Nat.reduceAdd, a0, a1, a7, a8, a9, dc, f_remZ, u8_wrap, hr9, h9m]))
            | ((first | apply Ops.g0u | apply Drs.g0u); case e => (simp (disch := omega) only [evs, evt, Int.reduceToNat, Int.reduceEq, Int.reduceLT, Int.reduceLE, decide_true, decide_false, Nat.reduceEqDiff, Nat.reduceLT, reduceIte, cond_true, cond_false, List.map_cons, List.map_nil, Nat.reduceAdd, a0, a1, a7, a8, a9, dc, f_remZ, u8_wrap, hr9, h9m]))
            | apply Ok.seq
            | apply Ok.block
            | (apply Ok.ops (S := SC))
            | (apply Ok.condT; case e => (simp (disch := omega) only [evs, evt, Int.reduceToNat, Int.reduceEq, Int.reduceLT, Int.reduceLE, decide_true, decide_false, Nat.reduceEqDiff, Nat.reduceLT, reduceIte, cond_true, cond_false, List.map_cons, List.map_nil, Nat.reduceAdd, a0, a1, a7, a8, a9, dc, f_remZ, u8_wrap, hr9, h9m]))
            | (apply Ok.condF; case e => (simp (disch := omega) only [evs, evt, Int.reduceToNat, Int.reduceEq, Int.reduceLT, Int.reduceLE, decide_true, decide_false, Nat.reduceEqDiff, Nat.reduceLT, reduceIte, cond_true, cond_false, List.map_cons, List.map_nil, Nat.reduceAdd, a0, a1, a7, a8, a9, dc, f_remZ, u8_wrap, hr9, h9m]))
            | ((first | apply Ops.nil | apply Drs.nil | apply Ok.skip | apply Ok.exit | apply Ok.ret); try simp only [Then_n, Then_e, Then_r, Out_n, Out_e, Out_r, Nat.reduceEqDiff, reduceIte])
            | (apply Ok.drs (S := SC) hmix)
            )
          apply Ops.lit4 (y0 := bv (UInt8.ofNat (9 + d % 247)))
          case e0 => (simp (disch := omega) only [evs, evt, Int.reduceToNat, Int.reduceEq, Int.reduceLT, Int.reduceLE, decide_true, decide_false, Nat.reduceEqDiff, Nat.reduceLT, reduceIte, cond_true, cond_false, List.map_cons, List.map_nil, Nat.reduceAdd, bv_cast])
          case e1 => rfl
          case e2 => rfl
          case e3 => rfl
          case k0 => rfl
          case k1 => rfl
          case k2 => rfl
          case k3 => rfl
          case c0 => rfl
          case c1 => rfl
          case c2 => rfl
          case c3 => rfl
          case hf => exact hfg
          case k =>
          intro g1 id1 s4 hid4 hnx4 o4
          have hb4 := second g1 id1 o4
          repeat (first
            | ((first | apply Ops.op | apply Ops.op0 | apply Drs.bar | apply Drs.pure); case e => (intro k; simp (disch := omega) only [evs, evt, Int.reduceToNat, Int.reduceEq, Int.reduceLT, Int.reduceLE, decide_true, decide_false, Nat.reduceEqDiff, Nat.reduceLT, reduceIte, cond_true, cond_false, List.map_cons, List.map_nil, Nat.reduceAdd, a0, a1, a7, a8, a9, hb4]; rfl))
            | ((first | apply Ops.g1 | apply Drs.g1); case e => (simp (disch := omega) only [evs, evt, Int.reduceToNat, Int.reduceEq, Int.reduceLT, Int.reduceLE, decide_true, decide_false, Nat.reduceEqDiff, Nat.reduceLT, reduceIte, cond_true, cond_false, List.map_cons, List.map_nil, Nat.reduceAdd, a0, a1, a7, a8, a9, hb4]))
            | ((first | apply Ops.g0t | apply Ops.g0f | apply Drs.g0t | apply Drs.g0f); case e => (simp (disch := omega) only [evs, evt, Int.reduceToNat, Int.reduceEq, Int.reduceLT, Int.reduceLE, decide_true, decide_false, Nat.reduceEqDiff, Nat.reduceLT, reduceIte, cond_true, cond_false, List.map_cons, List.map_nil, Nat.reduceAdd, a0, a1, a7, a8, a9, hb4]))
            | ((first | apply Ops.g0u | apply Drs.g0u); case e => (simp (disch := omega) only [evs, evt, Int.reduceToNat, Int.reduceEq, Int.reduceLT, Int.reduceLE, decide_true, decide_false, Nat.reduceEqDiff, Nat.reduceLT, reduceIte, cond_true, cond_false, List.map_cons, List.map_nil, Nat.reduceAdd, a0, a1, a7, a8, a9, hb4]))
            | apply Ok.seq
            | apply Ok.block
            | (apply Ok.ops (S := SC))
            | (apply Ok.condT; case e => (simp (disch := omega) only [evs, evt, Int.reduceToNat, Int.reduceEq, Int.reduceLT, Int.reduceLE, decide_true, decide_false, Nat.reduceEqDiff, Nat.reduceLT, reduceIte, cond_true, cond_false, List.map_cons, List.map_nil, Nat.reduceAdd, a0, a1, a7, a8, a9, hb4]))
            | (apply Ok.condF; case e => (simp (disch := omega) only [evs, evt, Int.reduceToNat, Int.reduceEq, Int.reduceLT, Int.reduceLE, decide_true, decide_false, Nat.reduceEqDiff, Nat.reduceLT, reduceIte, cond_true, cond_false, List.map_cons, List.map_nil, Nat.reduceAdd, a0, a1, a7, a8, a9, hb4]))
            | ((first | apply Ops.nil | apply Drs.nil | apply Ok.skip | apply Ok.exit | apply Ok.ret); try simp only [Then_n, Then_e, Then_r, Out_n, Out_e, Out_r, Nat.reduceEqDiff, reduceIte])
            | (apply Ok.drs (S := SC) hmix)
            )
          apply Ops.call
          case e => (simp (disch := omega) only [evs, evt, Int.reduceToNat, Int.reduceEq, Int.reduceLT, Int.reduceLE, decide_true, decide_false, Nat.reduceEqDiff, Nat.reduceLT, reduceIte, cond_true, cond_false, List.map_cons, List.map_nil, Nat.reduceAdd]; rfl)
          case hf => exact sc_takeNum (by simp)
          case k =>
          intro y g1 hy
          obtain ⟨rfl, rfl⟩ := hy _ rfl
          rw [big]
          unfold tri
          repeat (first
            | ((first | apply Ops.op | apply Ops.op0 | apply Drs.bar | apply Drs.pure); case e => (intro k; simp (disch := omega) only [evs, evt, Int.reduceToNat, Int.reduceEq, Int.reduceLT, Int.reduceLE, decide_true, decide_false, Nat.reduceEqDiff, Nat.reduceLT, reduceIte, cond_true, cond_false, List.map_cons, List.map_nil, Nat.reduceAdd, a0, a1, a7, a8, a9]; rfl))
            | ((first | apply Ops.g1 | apply Drs.g1); case e => (simp (disch := omega) only [evs, evt, Int.reduceToNat, Int.reduceEq, Int.reduceLT, Int.reduceLE, decide_true, decide_false, Nat.reduceEqDiff, Nat.reduceLT, reduceIte, cond_true, cond_false, List.map_cons, List.map_nil, Nat.reduceAdd, a0, a1, a7, a8, a9]))
            | ((first | apply Ops.g0t | apply Ops.g0f | apply Drs.g0t | apply Drs.g0f); case e => (simp (disch := omega) only [evs, evt, Int.reduceToNat, Int.reduceEq, Int.reduceLT, Int.reduceLE, decide_true, decide_false, Nat.reduceEqDiff, Nat.reduceLT, reduceIte, cond_true, cond_false, List.map_cons, List.map_nil, Nat.reduceAdd, a0, a1, a7, a8, a9]))
            | ((first | apply Ops.g0u | apply Drs.g0u); case e => (simp (disch := omega) only [evs, evt, Int.reduceToNat, Int.reduceEq, Int.reduceLT, Int.reduceLE, decide_true, decide_false, Nat.reduceEqDiff, Nat.reduceLT, reduceIte, cond_true, cond_false, List.map_cons, List.map_nil, Nat.reduceAdd, a0, a1, a7, a8, a9]))
            | apply Ok.seq
            | apply Ok.block
            | (apply Ok.ops (S := SC))
            | (apply Ok.condT; case e => (simp (disch := omega) only [evs, evt, Int.reduceToNat, Int.reduceEq, Int.reduceLT, Int.reduceLE, decide_true, decide_false, Nat.reduceEqDiff, Nat.reduceLT, reduceIte, cond_true, cond_false, List.map_cons, List.map_nil, Nat.reduceAdd, a0, a1, a7, a8, a9]))
            | (apply Ok.condF; case e => (simp (disch := omega) only [evs, evt, Int.reduceToNat, Int.reduceEq, Int.reduceLT, Int.reduceLE, decide_true, decide_false, Nat.reduceEqDiff, Nat.reduceLT, reduceIte, cond_true, cond_false, List.map_cons, List.map_nil, Nat.reduceAdd, a0, a1, a7, a8, a9]))
            | ((first | apply Ops.nil | apply Drs.nil | apply Ok.skip | apply Ok.exit | apply Ok.ret); try simp only [Then_n, Then_e, Then_r, Out_n, Out_e, Out_r, Nat.reduceEqDiff, reduceIte])
            | (apply Ok.drs (S := SC) hmix)
            )
          exact ⟨_, fun k => res_1 _ _ _ k, by simp (disch := omega) only [evs, evt, Int.reduceToNat, Int.reduceEq, Int.reduceLT, Int.reduceLE, decide_true, decide_false, Nat.reduceEqDiff, Nat.reduceLT, reduceIte, cond_true, cond_false, List.map_cons, List.map_nil, Nat.reduceAdd, one_1]⟩
        · have dc : decide ((c : Int) = 0) = false := decide_eq_false (by omega)
          have d7 : decide ((n : Int) < 8) = false := decide_eq_false (by omega)
          have d8 : decide ((c : Int) < 128) = false := decide_eq_false (by omega)
          repeat (first
            | ((first | apply Ops.op | apply Ops.op0 | apply Drs.bar | apply Drs.pure); case e => (intro k; simp (disch := omega) only [evs, evt, Int.reduceToNat, Int.reduceEq, Int.reduceLT, Int.reduceLE, decide_true, decide_false, Nat.reduceEqDiff, Nat.reduceLT, reduceIte, cond_true, cond_false, List.map_cons, List.map_nil, Nat.reduceAdd, a0, a1, a7, a8, a9, dc, d7, d8, f_remZ, u8_wrap, hr9, h9m]; rfl))
            | ((first | apply Ops.g1 | apply Drs.g1); case e => (simp (disch := omega) only [evs, evt, Int.reduceToNat, Int.reduceEq, Int.reduceLT, Int.reduceLE, decide_true, decide_false, Nat.reduceEqDiff, Nat.reduceLT, reduceIte, cond_true, cond_false, List.map_cons, List.map_nil, Nat.reduceAdd, a0, a1, a7, a8, a9, dc, d7, d8, f_remZ, u8_wrap, hr9, h9m]))
            | ((first | apply Ops.g0t | apply Ops.g0f | apply Drs.g0t | apply Drs.g0f); case e => (simp (disch := omega) only [evs, evt, Int.reduceToNat, Int.reduceEq, Int.reduceLT, Int.reduceLE, decide_true, decide_false, Nat.reduceEqDiff, Nat.reduceLT, reduceIte, cond_true, cond_false, List.map_cons, List.map_nil, Nat.reduceAdd, a0, a1, a7, a8, a9, dc, d7, d8, f_remZ, u8_wrap, hr9, h9m]))
            | ((first | apply Ops.g0u | apply Drs.g0u); case e => (simp (disch := omega) only [evs, evt, Int.reduceToNat, Int.reduceEq, Int.reduceLT, Int.reduceLE, decide_true, decide_false, Nat.reduceEqDiff, Nat.reduceLT, reduceIte, cond_true, cond_false, List.map_cons, List.map_nil, Nat.reduceAdd, a0, a1, a7, a8, a9, dc, d7, d8, f_remZ, u8_wrap, hr9, h9m]))
            | apply Ok.seq
            | apply Ok.block
            | (apply Ok.ops (S := SC))
            | (apply Ok.condT; case e => (simp (disch := omega) only [evs, evt, Int.reduceToNat, Int.reduceEq, Int.reduceLT, Int.reduceLE, decide_true, decide_false, Nat.reduceEqDiff, Nat.reduceLT, reduceIte, cond_true, cond_false, List.map_cons, List.map_nil, Nat.reduceAdd, a0, a1, a7, a8, a9, dc, d7, d8, f_remZ, u8_wrap, hr9, h9m]))
            | (apply Ok.condF; case e => (simp (disch := omega) only [evs, evt, Int.reduceToNat, Int.reduceEq, Int.reduceLT, Int.reduceLE, decide_true, decide_false, Nat.reduceEqDiff, Nat.reduceLT, reduceIte, cond_true, cond_false, List.map_cons, List.map_nil, Nat.reduceAdd, a0, a1, a7, a8, a9, dc, d7, d8, f_remZ, u8_wrap, hr9, h9m]))
            | ((first | apply Ops.nil | apply Drs.nil | apply Ok.skip | apply Ok.exit | apply Ok.ret); try simp only [Then_n, Then_e, Then_r, Out_n, Out_e, Out_r, Nat.reduceEqDiff, reduceIte])
            | (apply Ok.drs (S := SC) hmix)
            )
          apply Ops.lit4 (y0 := bv (UInt8.ofNat (9 + d % 247)))
          case e0 => (simp (disch := omega) only [evs, evt, Int.reduceToNat, Int.reduceEq, Int.reduceLT, Int.reduceLE, decide_true, decide_false, Nat.reduceEqDiff, Nat.reduceLT, reduceIte, cond_true, cond_false, List.map_cons, List.map_nil, Nat.reduceAdd, bv_cast])
          case e1 => rfl
          case e2 => rfl
          case e3 => rfl
          case k0 => rfl
          case k1 => rfl
          case k2 => rfl
          case k3 => rfl
          case c0 => rfl
          case c1 => rfl
          case c2 => rfl
          case c3 => rfl
          case hf => exact hfg
          case k =>
          intro g1 id1 s4 hid4 hnx4 o4
          have hb4 := second g1 id1 o4
          repeat (first
            | ((first | apply Ops.op | apply Ops.op0 | apply Drs.bar | apply Drs.pure); case e => (intro k; simp (disch := omega) only [evs, evt, Int.reduceToNat, Int.reduceEq, Int.reduceLT, Int.reduceLE, decide_true, decide_false, Nat.reduceEqDiff, Nat.reduceLT, reduceIte, cond_true, cond_false, List.map_cons, List.map_nil, Nat.reduceAdd, a0, a1, a7, a8, a9, hb4]; rfl))
            | ((first | apply Ops.g1 | apply Drs.g1); case e => (simp (disch := omega) only [evs, evt, Int.reduceToNat, Int.reduceEq, Int.reduceLT, Int.reduceLE, decide_true, decide_false, Nat.reduceEqDiff, Nat.reduceLT, reduceIte, cond_true, cond_false, List.map_cons, List.map_nil, Nat.reduceAdd, a0, a1, a7, a8, a9, hb4]))
            | ((first | apply Ops.g0t | apply Ops.g0f | apply Drs.g0t | apply Drs.g0f); case e => (simp (disch := omega) only [evs, evt, Int.reduceToNat, Int.reduceEq, Int.reduceLT, Int.reduceLE, decide_true, decide_false, Nat.reduceEqDiff, Nat.reduceLT, reduceIte, cond_true, cond_false, List.map_cons, List.map_nil, Nat.reduceAdd, a0, a1, a7, a8, a9, hb4]))
            | ((first | apply Ops.g0u | apply Drs.g0u); case e => (simp (disch := omega) only [evs, evt, Int.reduceToNat, Int.reduceEq, Int.reduceLT, Int.reduceLE, decide_true, decide_false, Nat.reduceEqDiff, Nat.reduceLT, reduceIte, cond_true, cond_false, List.map_cons, List.map_nil, Nat.reduceAdd, a0, a1, a7, a8, a9, hb4]))
            | apply Ok.seq
            | apply Ok.block
            | (apply Ok.ops (S := SC))
            | (apply Ok.condT; case e => (simp (disch := omega) only [evs, evt, Int.reduceToNat, Int.reduceEq, Int.reduceLT, Int.reduceLE, decide_true, decide_false, Nat.reduceEqDiff, Nat.reduceLT, reduceIte, cond_true, cond_false, List.map_cons, List.map_nil, Nat.reduceAdd, a0, a1, a7, a8, a9, hb4]))
            | (apply Ok.condF; case e => (simp (disch := omega) only [evs, evt, Int.reduceToNat, Int.reduceEq, Int.reduceLT, Int.reduceLE, decide_true, decide_false, Nat.reduceEqDiff, Nat.reduceLT, reduceIte, cond_true, cond_false, List.map_cons, List.map_nil, Nat.reduceAdd, a0, a1, a7, a8, a9, hb4]))
            | ((first | apply Ops.nil | apply Drs.nil | apply Ok.skip | apply Ok.exit | apply Ok.ret); try simp only [Then_n, Then_e, Then_r, Out_n, Out_e, Out_r, Nat.reduceEqDiff, reduceIte])
            | (apply Ok.drs (S := SC) hmix)
            )
          apply Ops.call
          case e => (simp (disch := omega) only [evs, evt, Int.reduceToNat, Int.reduceEq, Int.reduceLT, Int.reduceLE, decide_true, decide_false, Nat.reduceEqDiff, Nat.reduceLT, reduceIte, cond_true, cond_false, List.map_cons, List.map_nil, Nat.reduceAdd]; rfl)
          case hf => exact sc_takeNum (by simp)
          case k =>
          intro y g1 hy
          obtain ⟨rfl, rfl⟩ := hy _ rfl
          rw [big]
          unfold tri
          repeat (first
            | ((first | apply Ops.op | apply Ops.op0 | apply Drs.bar | apply Drs.pure); case e => (intro k; simp (disch := omega) only [evs, evt, Int.reduceToNat, Int.reduceEq, Int.reduceLT, Int.reduceLE, decide_true, decide_false, Nat.reduceEqDiff, Nat.reduceLT, reduceIte, cond_true, cond_false, List.map_cons, List.map_nil, Nat.reduceAdd, a0, a1, a7, a8, a9]; rfl))
            | ((first | apply Ops.g1 | apply Drs.g1); case e => (simp (disch := omega) only [evs, evt, Int.reduceToNat, Int.reduceEq, Int.reduceLT, Int.reduceLE, decide_true, decide_false, Nat.reduceEqDiff, Nat.reduceLT, reduceIte, cond_true, cond_false, List.map_cons, List.map_nil, Nat.reduceAdd, a0, a1, a7, a8, a9]))
            | ((first | apply Ops.g0t | apply Ops.g0f | apply Drs.g0t | apply Drs.g0f); case e => (simp (disch := omega) only [evs, evt, Int.reduceToNat, Int.reduceEq, Int.reduceLT, Int.reduceLE, decide_true, decide_false, Nat.reduceEqDiff, Nat.reduceLT, reduceIte, cond_true, cond_false, List.map_cons, List.map_nil, Nat.reduceAdd, a0, a1, a7, a8, a9]))
            | ((first | apply Ops.g0u | apply Drs.g0u); case e => (simp (disch := omega) only [evs, evt, Int.reduceToNat, Int.reduceEq, Int.reduceLT, Int.reduceLE, decide_true, decide_false, Nat.reduceEqDiff, Nat.reduceLT, reduceIte, cond_true, cond_false, List.map_cons, List.map_nil, Nat.reduceAdd, a0, a1, a7, a8, a9]))
            | apply Ok.seq
            | apply Ok.block
            | (apply Ok.ops (S := SC))
            | (apply Ok.condT; case e => (simp (disch := omega) only [evs, evt, Int.reduceToNat, Int.reduceEq, Int.reduceLT, Int.reduceLE, decide_true, decide_false, Nat.reduceEqDiff, Nat.reduceLT, reduceIte, cond_true, cond_false, List.map_cons, List.map_nil, Nat.reduceAdd, a0, a1, a7, a8, a9]))
            | (apply Ok.condF; case e => (simp (disch := omega) only [evs, evt, Int.reduceToNat, Int.reduceEq, Int.reduceLT, Int.reduceLE, decide_true, decide_false, Nat.reduceEqDiff, Nat.reduceLT, reduceIte, cond_true, cond_false, List.map_cons, List.map_nil, Nat.reduceAdd, a0, a1, a7, a8, a9]))
            | ((first | apply Ops.nil | apply Drs.nil | apply Ok.skip | apply Ok.exit | apply Ok.ret); try simp only [Then_n, Then_e, Then_r, Out_n, Out_e, Out_r, Nat.reduceEqDiff, reduceIte])
            | (apply Ok.drs (S := SC) hmix)
            )
          exact ⟨_, fun k => res_1 _ _ _ k, by simp (disch := omega) only [evs, evt, Int.reduceToNat, Int.reduceEq, Int.reduceLT, Int.reduceLE, decide_true, decide_false, Nat.reduceEqDiff, Nat.reduceLT, reduceIte, cond_true, cond_false, List.map_cons, List.map_nil, Nat.reduceAdd, one_1]⟩
      · rw [takeN_ok (by omega) (by omega) (by rw [htk]; exact bad), htk, hwn]
        have hcase : ¬ ((0 < n ∧ c = 0) ∨ (n = 8 ∧ 128 ≤ c)) := fun h => bad ((hbad ()).2 h)
        clear hbad
        unfold tri
        have hpk : pk D ≤ 9223372036854775807 := by
          rcases Nat.lt_or_ge (pk D) 9223372036854775808 with h1 | h1
          · omega
          · exact absurd (.inr h1) bad
        have hnum : numB (pk D) = UInt8.ofNat n :: D := by
          have : digs (pk D) = D := digs_pk D fun h => bad (.inl h)
          unfold numB; rw [this, hDl]
        have dc : decide ((c : Int) = 0) = false := decide_eq_false (by omega)
        have fin : ∀ (t : F) (g : H) , get 12 t = .i .i64 0 → True := fun _ _ _ => trivial
        cases d7 : decide ((n : Int) < 8) with
        | true =>
          repeat (first
            | ((first | apply Ops.op | apply Ops.op0 | apply Drs.bar | apply Drs.pure); case e => (intro k; simp (disch := omega) only [evs, evt, Int.reduceToNat, Int.reduceEq, Int.reduceLT, Int.reduceLE, decide_true, decide_false, Nat.reduceEqDiff, Nat.reduceLT, reduceIte, cond_true, cond_false, List.map_cons, List.map_nil, Nat.reduceAdd, a0, a1, a7, a8, a9, dc, d7, f_remZ, u8_wrap, hr9, h9m]; rfl))
            | ((first | apply Ops.g1 | apply Drs.g1); case e => (simp (disch := omega) only [evs, evt, Int.reduceToNat, Int.reduceEq, Int.reduceLT, Int.reduceLE, decide_true, decide_false, Nat.reduceEqDiff, Nat.reduceLT, reduceIte, cond_true, cond_false, List.map_cons, List.map_nil, Nat.reduceAdd, a0, a1, a7, a8, a9, dc, d7, f_remZ, u8_wrap, hr9, h9m]))
            | ((first | apply Ops.g0t | apply Ops.g0f | apply Drs.g0t | apply Drs.g0f); case e => (simp (disch := omega) only [evs, evt, Int.reduceToNat, Int.reduceEq, Int.reduceLT, Int.reduceLE, decide_true, decide_false, Nat.reduceEqDiff, Nat.reduceLT, reduceIte, cond_true, cond_false, List.map_cons, List.map_nil, Nat.reduceAdd, a0, a1, a7, a8, a9, dc, d7, f_remZ, u8_wrap, hr9, h9m]))
            | ((first | apply Ops.g0u | apply Drs.g0u); case e => (simp (disch := omega) only [evs, evt, Int.reduceToNat, Int.reduceEq, Int.reduceLT, Int.reduceLE, decide_true, decide_false, Nat.reduceEqDiff, Nat.reduceLT, reduceIte, cond_true, cond_false, List.map_cons, List.map_nil, Nat.reduceAdd, a0, a1, a7, a8, a9, dc, d7, f_remZ, u8_wrap, hr9, h9m]))
            | apply Ok.seq
            | apply Ok.block
            | (apply Ok.ops (S := SC))
            | (apply Ok.condT; case e => (simp (disch := omega) only [evs, evt, Int.reduceToNat, Int.reduceEq, Int.reduceLT, Int.reduceLE, decide_true, decide_false, Nat.reduceEqDiff, Nat.reduceLT, reduceIte, cond_true, cond_false, List.map_cons, List.map_nil, Nat.reduceAdd, a0, a1, a7, a8, a9, dc, d7, f_remZ, u8_wrap, hr9, h9m]))
            | (apply Ok.condF; case e => (simp (disch := omega) only [evs, evt, Int.reduceToNat, Int.reduceEq, Int.reduceLT, Int.reduceLE, decide_true, decide_false, Nat.reduceEqDiff, Nat.reduceLT, reduceIte, cond_true, cond_false, List.map_cons, List.map_nil, Nat.reduceAdd, a0, a1, a7, a8, a9, dc, d7, f_remZ, u8_wrap, hr9, h9m]))
            | ((first | apply Ops.nil | apply Drs.nil | apply Ok.skip | apply Ok.exit | apply Ok.ret); try simp only [Then_n, Then_e, Then_r, Out_n, Out_e, Out_r, Nat.reduceEqDiff, reduceIte])
            | (apply Ok.drs (S := SC) hmix)
            )
          apply Ops.lit4 (y0 := bv (UInt8.ofNat (9 + d % 247)))
          case e0 => (simp (disch := omega) only [evs, evt, Int.reduceToNat, Int.reduceEq, Int.reduceLT, Int.reduceLE, decide_true, decide_false, Nat.reduceEqDiff, Nat.reduceLT, reduceIte, cond_true, cond_false, List.map_cons, List.map_nil, Nat.reduceAdd, bv_cast])
          case e1 => rfl
          case e2 => rfl
          case e3 => rfl
          case k0 => rfl
          case k1 => rfl
          case k2 => rfl
          case k3 => rfl
          case c0 => rfl
          case c1 => rfl
          case c2 => rfl
          case c3 => rfl
          case hf => exact hfg
          case k =>
          intro g1 id1 s4 hid4 hnx4 o4
          have hb4 := second g1 id1 o4
          have o5 := oL.grow s4
          have hf4 := s4.fl hfg
          repeat (first
            | ((first | apply Ops.op | apply Ops.op0 | apply Drs.bar | apply Drs.pure); case e => (intro k; simp (disch := omega) only [evs, evt, Int.reduceToNat, Int.reduceEq, Int.reduceLT, Int.reduceLE, decide_true, decide_false, Nat.reduceEqDiff, Nat.reduceLT, reduceIte, cond_true, cond_false, List.map_cons, List.map_nil, Nat.reduceAdd, a0, a1, a7, a8, a9, hb4]; rfl))
            | ((first | apply Ops.g1 | apply Drs.g1); case e => (simp (disch := omega) only [evs, evt, Int.reduceToNat, Int.reduceEq, Int.reduceLT, Int.reduceLE, decide_true, decide_false, Nat.reduceEqDiff, Nat.reduceLT, reduceIte, cond_true, cond_false, List.map_cons, List.map_nil, Nat.reduceAdd, a0, a1, a7, a8, a9, hb4]))
            | ((first | apply Ops.g0t | apply Ops.g0f | apply Drs.g0t | apply Drs.g0f); case e => (simp (disch := omega) only [evs, evt, Int.reduceToNat, Int.reduceEq, Int.reduceLT, Int.reduceLE, decide_true, decide_false, Nat.reduceEqDiff, Nat.reduceLT, reduceIte, cond_true, cond_false, List.map_cons, List.map_nil, Nat.reduceAdd, a0, a1, a7, a8, a9, hb4]))
            | ((first | apply Ops.g0u | apply Drs.g0u); case e => (simp (disch := omega) only [evs, evt, Int.reduceToNat, Int.reduceEq, Int.reduceLT, Int.reduceLE, decide_true, decide_false, Nat.reduceEqDiff, Nat.reduceLT, reduceIte, cond_true, cond_false, List.map_cons, List.map_nil, Nat.reduceAdd, a0, a1, a7, a8, a9, hb4]))
            | apply Ok.seq
            | apply Ok.block
            | (apply Ok.ops (S := SC))
            | (apply Ok.condT; case e => (simp (disch := omega) only [evs, evt, Int.reduceToNat, Int.reduceEq, Int.reduceLT, Int.reduceLE, decide_true, decide_false, Nat.reduceEqDiff, Nat.reduceLT, reduceIte, cond_true, cond_false, List.map_cons, List.map_nil, Nat.reduceAdd, a0, a1, a7, a8, a9, hb4]))
            | (apply Ok.condF; case e => (simp (disch := omega) only [evs, evt, Int.reduceToNat, Int.reduceEq, Int.reduceLT, Int.reduceLE, decide_true, decide_false, Nat.reduceEqDiff, Nat.reduceLT, reduceIte, cond_true, cond_false, List.map_cons, List.map_nil, Nat.reduceAdd, a0, a1, a7, a8, a9, hb4]))
            | ((first | apply Ops.nil | apply Drs.nil | apply Ok.skip | apply Ok.exit | apply Ok.ret); try simp only [Then_n, Then_e, Then_r, Out_n, Out_e, Out_r, Nat.reduceEqDiff, reduceIte])
            | (apply Ok.drs (S := SC) hmix)
            )
          apply Ops.call
          case e => (simp (disch := omega) only [evs, evt, Int.reduceToNat, Int.reduceEq, Int.reduceLT, Int.reduceLE, decide_true, decide_false, Nat.reduceEqDiff, Nat.reduceLT, reduceIte, cond_true, cond_false, List.map_cons, List.map_nil, Nat.reduceAdd]; rfl)
          case hf => exact sc_takeNum (by simp)
          case k =>
          intro y g1 hy
          obtain ⟨rfl, rfl⟩ := hy _ rfl
          rw [big]
          unfold tri
          repeat (first
            | ((first | apply Ops.op | apply Ops.op0 | apply Drs.bar | apply Drs.pure); case e => (intro k; simp (disch := omega) only [evs, evt, Int.reduceToNat, Int.reduceEq, Int.reduceLT, Int.reduceLE, decide_true, decide_false, Nat.reduceEqDiff, Nat.reduceLT, reduceIte, cond_true, cond_false, List.map_cons, List.map_nil, Nat.reduceAdd, a0, a1, a7, a8, a9, en1]; rfl))
            | ((first | apply Ops.g1 | apply Drs.g1); case e => (simp (disch := omega) only [evs, evt, Int.reduceToNat, Int.reduceEq, Int.reduceLT, Int.reduceLE, decide_true, decide_false, Nat.reduceEqDiff, Nat.reduceLT, reduceIte, cond_true, cond_false, List.map_cons, List.map_nil, Nat.reduceAdd, a0, a1, a7, a8, a9, en1]))
            | ((first | apply Ops.g0t | apply Ops.g0f | apply Drs.g0t | apply Drs.g0f); case e => (simp (disch := omega) only [evs, evt, Int.reduceToNat, Int.reduceEq, Int.reduceLT, Int.reduceLE, decide_true, decide_false, Nat.reduceEqDiff, Nat.reduceLT, reduceIte, cond_true, cond_false, List.map_cons, List.map_nil, Nat.reduceAdd, a0, a1, a7, a8, a9, en1]))
            | ((first | apply Ops.g0u | apply Drs.g0u); case e => (simp (disch := omega) only [evs, evt, Int.reduceToNat, Int.reduceEq, Int.reduceLT, Int.reduceLE, decide_true, decide_false, Nat.reduceEqDiff, Nat.reduceLT, reduceIte, cond_true, cond_false, List.map_cons, List.map_nil, Nat.reduceAdd, a0, a1, a7, a8, a9, en1]))
            | apply Ok.seq
            | apply Ok.block
            | (apply Ok.ops (S := SC))
            | (apply Ok.condT; case e => (simp (disch := omega) only [evs, evt, Int.reduceToNat, Int.reduceEq, Int.reduceLT, Int.reduceLE, decide_true, decide_false, Nat.reduceEqDiff, Nat.reduceLT, reduceIte, cond_true, cond_false, List.map_cons, List.map_nil, Nat.reduceAdd, a0, a1, a7, a8, a9, en1]))
            | (apply Ok.condF; case e => (simp (disch := omega) only [evs, evt, Int.reduceToNat, Int.reduceEq, Int.reduceLT, Int.reduceLE, decide_true, decide_false, Nat.reduceEqDiff, Nat.reduceLT, reduceIte, cond_true, cond_false, List.map_cons, List.map_nil, Nat.reduceAdd, a0, a1, a7, a8, a9, en1]))
            | ((first | apply Ops.nil | apply Drs.nil | apply Ok.skip | apply Ok.exit | apply Ok.ret); try simp only [Then_n, Then_e, Then_r, Out_n, Out_e, Out_r, Nat.reduceEqDiff, reduceIte])
            | (apply Ok.drs (S := SC) hmix)
            )
          apply Drs.call
          case e => (simp (disch := omega) only [evs, evt, Int.reduceToNat, Int.reduceEq, Int.reduceLT, Int.reduceLE, decide_true, decide_false, Nat.reduceEqDiff, Nat.reduceLT, reduceIte, cond_true, cond_false, List.map_cons, List.map_nil, Nat.reduceAdd]; rfl)
          case hf => exact sc_num (by omega) (by rw [reFloor_floor, reFloor_next]; exact Nat.le_refl _)
          case k =>
          intro y g2 hy
          obtain ⟨rfl, s5⟩ := hy _ rfl
          have o6 := o5.grow s5.unfloor
          rw [Int.toNat_natCast, hnum]
          have hb6 := b2s_lst o6 (by simp)
          repeat (first
            | ((first | apply Ops.op | apply Ops.op0 | apply Drs.bar | apply Drs.pure); case e => (intro k; simp (disch := omega) only [evs, evt, Int.reduceToNat, Int.reduceEq, Int.reduceLT, Int.reduceLE, decide_true, decide_false, Nat.reduceEqDiff, Nat.reduceLT, reduceIte, cond_true, cond_false, List.map_cons, List.map_nil, Nat.reduceAdd, a0, a1, a7, a8, a9, b2sV_refloor, hb6]; rfl))
            | ((first | apply Ops.g1 | apply Drs.g1); case e => (simp (disch := omega) only [evs, evt, Int.reduceToNat, Int.reduceEq, Int.reduceLT, Int.reduceLE, decide_true, decide_false, Nat.reduceEqDiff, Nat.reduceLT, reduceIte, cond_true, cond_false, List.map_cons, List.map_nil, Nat.reduceAdd, a0, a1, a7, a8, a9, b2sV_refloor, hb6]))
            | ((first | apply Ops.g0t | apply Ops.g0f | apply Drs.g0t | apply Drs.g0f); case e => (simp (disch := omega) only [evs, evt, Int.reduceToNat, Int.reduceEq, Int.reduceLT, Int.reduceLE, decide_true, decide_false, Nat.reduceEqDiff, Nat.reduceLT, reduceIte, cond_true, cond_false, List.map_cons, List.map_nil, Nat.reduceAdd, a0, a1, a7, a8, a9, b2sV_refloor, hb6]))
            | ((first | apply Ops.g0u | apply Drs.g0u); case e => (simp (disch := omega) only [evs, evt, Int.reduceToNat, Int.reduceEq, Int.reduceLT, Int.reduceLE, decide_true, decide_false, Nat.reduceEqDiff, Nat.reduceLT, reduceIte, cond_true, cond_false, List.map_cons, List.map_nil, Nat.reduceAdd, a0, a1, a7, a8, a9, b2sV_refloor, hb6]))
            | apply Ok.seq
            | apply Ok.block
            | (apply Ok.ops (S := SC))
            | (apply Ok.condT; case e => (simp (disch := omega) only [evs, evt, Int.reduceToNat, Int.reduceEq, Int.reduceLT, Int.reduceLE, decide_true, decide_false, Nat.reduceEqDiff, Nat.reduceLT, reduceIte, cond_true, cond_false, List.map_cons, List.map_nil, Nat.reduceAdd, a0, a1, a7, a8, a9, b2sV_refloor, hb6]))
            | (apply Ok.condF; case e => (simp (disch := omega) only [evs, evt, Int.reduceToNat, Int.reduceEq, Int.reduceLT, Int.reduceLE, decide_true, decide_false, Nat.reduceEqDiff, Nat.reduceLT, reduceIte, cond_true, cond_false, List.map_cons, List.map_nil, Nat.reduceAdd, a0, a1, a7, a8, a9, b2sV_refloor, hb6]))
            | ((first | apply Ops.nil | apply Drs.nil | apply Ok.skip | apply Ok.exit | apply Ok.ret); try simp only [Then_n, Then_e, Then_r, Out_n, Out_e, Out_r, Nat.reduceEqDiff, reduceIte])
            | (apply Ok.drs (S := SC) hmix)
            )
          exact ⟨_, fun k => res_1 _ _ _ k, by simp (disch := omega) only [evs, evt, Int.reduceToNat, Int.reduceEq, Int.reduceLT, Int.reduceLE, decide_true, decide_false, Nat.reduceEqDiff, Nat.reduceLT, reduceIte, cond_true, cond_false, List.map_cons, List.map_nil, Nat.reduceAdd, one_1]⟩
        | false =>
          have e7 := of_decide_eq_false d7
          have d8 : decide ((c : Int) < 128) = true := decide_eq_true (by omega)
          repeat (first
            | ((first | apply Ops.op | apply Ops.op0 | apply Drs.bar | apply Drs.pure); case e => (intro k; simp (disch := omega) only [evs, evt, Int.reduceToNat, Int.reduceEq, Int.reduceLT, Int.reduceLE, decide_true, decide_false, Nat.reduceEqDiff, Nat.reduceLT, reduceIte, cond_true, cond_false, List.map_cons, List.map_nil, Nat.reduceAdd, a0, a1, a7, a8, a9, dc, d7, d8, f_remZ, u8_wrap, hr9, h9m]; rfl))
            | ((first | apply Ops.g1 | apply Drs.g1); case e => (simp (disch := omega) only [evs, evt, Int.reduceToNat, Int.reduceEq, Int.reduceLT, Int.reduceLE, decide_true, decide_false, Nat.reduceEqDiff, Nat.reduceLT, reduceIte, cond_true, cond_false, List.map_cons, List.map_nil, Nat.reduceAdd, a0, a1, a7, a8, a9, dc, d7, d8, f_remZ, u8_wrap, hr9, h9m]))
            | ((first | apply Ops.g0t | apply Ops.g0f | apply Drs.g0t | apply Drs.g0f); case e => (simp (disch := omega) only [evs, evt, Int.reduceToNat, Int.reduceEq, Int.reduceLT, Int.reduceLE, decide_true, decide_false, Nat.reduceEqDiff, Nat.reduceLT, reduceIte, cond_true, cond_false, List.map_cons, List.map_nil, Nat.reduceAdd, a0, a1, a7, a8, a9, dc, d7, d8, f_remZ, u8_wrap, hr9, h9m]))
            | ((first | apply Ops.g0u | apply Drs.g0u); case e => (simp (disch := omega) only [evs, evt, Int.reduceToNat, Int.reduceEq, Int.reduceLT, Int.reduceLE, decide_true, decide_false, Nat.reduceEqDiff, Nat.reduceLT, reduceIte, cond_true, cond_false, List.map_cons, List.map_nil, Nat.reduceAdd, a0, a1, a7, a8, a9, dc, d7, d8, f_remZ, u8_wrap, hr9, h9m]))
            | apply Ok.seq
            | apply Ok.block
            | (apply Ok.ops (S := SC))
            | (apply Ok.condT; case e => (simp (disch := omega) only [evs, evt, Int.reduceToNat, Int.reduceEq, Int.reduceLT, Int.reduceLE, decide_true, decide_false, Nat.reduceEqDiff, Nat.reduceLT, reduceIte, cond_true, cond_false, List.map_cons, List.map_nil, Nat.reduceAdd, a0, a1, a7, a8, a9, dc, d7, d8, f_remZ, u8_wrap, hr9, h9m]))
            | (apply Ok.condF; case e => (simp (disch := omega) only [evs, evt, Int.reduceToNat, Int.reduceEq, Int.reduceLT, Int.reduceLE, decide_true, decide_false, Nat.reduceEqDiff, Nat.reduceLT, reduceIte, cond_true, cond_false, List.map_cons, List.map_nil, Nat.reduceAdd, a0, a1, a7, a8, a9, dc, d7, d8, f_remZ, u8_wrap, hr9, h9m]))
            | ((first | apply Ops.nil | apply Drs.nil | apply Ok.skip | apply Ok.exit | apply Ok.ret); try simp only [Then_n, Then_e, Then_r, Out_n, Out_e, Out_r, Nat.reduceEqDiff, reduceIte])
            | (apply Ok.drs (S := SC) hmix)
            )
          apply Ops.lit4 (y0 := bv (UInt8.ofNat (9 + d % 247)))
          case e0 => (simp (disch := omega) only [evs, evt, Int.reduceToNat, Int.reduceEq, Int.reduceLT, Int.reduceLE, decide_true, decide_false, Nat.reduceEqDiff, Nat.reduceLT, reduceIte, cond_true, cond_false, List.map_cons, List.map_nil, Nat.reduceAdd, bv_cast])
          case e1 => rfl
          case e2 => rfl
          case e3 => rfl
          case k0 => rfl
          case k1 => rfl
          case k2 => rfl
          case k3 => rfl
          case c0 => rfl
          case c1 => rfl
          case c2 => rfl
          case c3 => rfl
          case hf => exact hfg
          case k =>
          intro g1 id1 s4 hid4 hnx4 o4
          have hb4 := second g1 id1 o4
          have o5 := oL.grow s4
          have hf4 := s4.fl hfg
          repeat (first
            | ((first | apply Ops.op | apply Ops.op0 | apply Drs.bar | apply Drs.pure); case e => (intro k; simp (disch := omega) only [evs, evt, Int.reduceToNat, Int.reduceEq, Int.reduceLT, Int.reduceLE, decide_true, decide_false, Nat.reduceEqDiff, Nat.reduceLT, reduceIte, cond_true, cond_false, List.map_cons, List.map_nil, Nat.reduceAdd, a0, a1, a7, a8, a9, hb4]; rfl))
            | ((first | apply Ops.g1 | apply Drs.g1); case e => (simp (disch := omega) only [evs, evt, Int.reduceToNat, Int.reduceEq, Int.reduceLT, Int.reduceLE, decide_true, decide_false, Nat.reduceEqDiff, Nat.reduceLT, reduceIte, cond_true, cond_false, List.map_cons, List.map_nil, Nat.reduceAdd, a0, a1, a7, a8, a9, hb4]))
            | ((first | apply Ops.g0t | apply Ops.g0f | apply Drs.g0t | apply Drs.g0f); case e => (simp (disch := omega) only [evs, evt, Int.reduceToNat, Int.reduceEq, Int.reduceLT, Int.reduceLE, decide_true, decide_false, Nat.reduceEqDiff, Nat.reduceLT, reduceIte, cond_true, cond_false, List.map_cons, List.map_nil, Nat.reduceAdd, a0, a1, a7, a8, a9, hb4]))
            | ((first | apply Ops.g0u | apply Drs.g0u); case e => (simp (disch := omega) only [evs, evt, Int.reduceToNat, Int.reduceEq, Int.reduceLT, Int.reduceLE, decide_true, decide_false, Nat.reduceEqDiff, Nat.reduceLT, reduceIte, cond_true, cond_false, List.map_cons, List.map_nil, Nat.reduceAdd, a0, a1, a7, a8, a9, hb4]))
            | apply Ok.seq
            | apply Ok.block
            | (apply Ok.ops (S := SC))
            | (apply Ok.condT; case e => (simp (disch := omega) only [evs, evt, Int.reduceToNat, Int.reduceEq, Int.reduceLT, Int.reduceLE, decide_true, decide_false, Nat.reduceEqDiff, Nat.reduceLT, reduceIte, cond_true, cond_false, List.map_cons, List.map_nil, Nat.reduceAdd, a0, a1, a7, a8, a9, hb4]))
            | (apply Ok.condF; case e => (simp (disch := omega) only [evs, evt, Int.reduceToNat, Int.reduceEq, Int.reduceLT, Int.reduceLE, decide_true, decide_false, Nat.reduceEqDiff, Nat.reduceLT, reduceIte, cond_true, cond_false, List.map_cons, List.map_nil, Nat.reduceAdd, a0, a1, a7, a8, a9, hb4]))
            | ((first | apply Ops.nil | apply Drs.nil | apply Ok.skip | apply Ok.exit | apply Ok.ret); try simp only [Then_n, Then_e, Then_r, Out_n, Out_e, Out_r, Nat.reduceEqDiff, reduceIte])
            | (apply Ok.drs (S := SC) hmix)
            )
          apply Ops.call
          case e => (simp (disch := omega) only [evs, evt, Int.reduceToNat, Int.reduceEq, Int.reduceLT, Int.reduceLE, decide_true, decide_false, Nat.reduceEqDiff, Nat.reduceLT, reduceIte, cond_true, cond_false, List.map_cons, List.map_nil, Nat.reduceAdd]; rfl)
          case hf => exact sc_takeNum (by simp)
          case k =>
          intro y g1 hy
          obtain ⟨rfl, rfl⟩ := hy _ rfl
          rw [big]
          unfold tri
          repeat (first
            | ((first | apply Ops.op | apply Ops.op0 | apply Drs.bar | apply Drs.pure); case e => (intro k; simp (disch := omega) only [evs, evt, Int.reduceToNat, Int.reduceEq, Int.reduceLT, Int.reduceLE, decide_true, decide_false, Nat.reduceEqDiff, Nat.reduceLT, reduceIte, cond_true, cond_false, List.map_cons, List.map_nil, Nat.reduceAdd, a0, a1, a7, a8, a9, en1]; rfl))
            | ((first | apply Ops.g1 | apply Drs.g1); case e => (simp (disch := omega) only [evs, evt, Int.reduceToNat, Int.reduceEq, Int.reduceLT, Int.reduceLE, decide_true, decide_false, Nat.reduceEqDiff, Nat.reduceLT, reduceIte, cond_true, cond_false, List.map_cons, List.map_nil, Nat.reduceAdd, a0, a1, a7, a8, a9, en1]))
            | ((first | apply Ops.g0t | apply Ops.g0f | apply Drs.g0t | apply Drs.g0f); case e => (simp (disch := omega) only [evs, evt, Int.reduceToNat, Int.reduceEq, Int.reduceLT, Int.reduceLE, decide_true, decide_false, Nat.reduceEqDiff, Nat.reduceLT, reduceIte, cond_true, cond_false, List.map_cons, List.map_nil, Nat.reduceAdd, a0, a1, a7, a8, a9, en1]))
            | ((first | apply Ops.g0u | apply Drs.g0u); case e => (simp (disch := omega) only [evs, evt, Int.reduceToNat, Int.reduceEq, Int.reduceLT, Int.reduceLE, decide_true, decide_false, Nat.reduceEqDiff, Nat.reduceLT, reduceIte, cond_true, cond_false, List.map_cons, List.map_nil, Nat.reduceAdd, a0, a1, a7, a8, a9, en1]))
            | apply Ok.seq
            | apply Ok.block
            | (apply Ok.ops (S := SC))
            | (apply Ok.condT; case e => (simp (disch := omega) only [evs, evt, Int.reduceToNat, Int.reduceEq, Int.reduceLT, Int.reduceLE, decide_true, decide_false, Nat.reduceEqDiff, Nat.reduceLT, reduceIte, cond_true, cond_false, List.map_cons, List.map_nil, Nat.reduceAdd, a0, a1, a7, a8, a9, en1]))
            | (apply Ok.condF; case e => (simp (disch := omega) only [evs, evt, Int.reduceToNat, Int.reduceEq, Int.reduceLT, Int.reduceLE, decide_true, decide_false, Nat.reduceEqDiff, Nat.reduceLT, reduceIte, cond_true, cond_false, List.map_cons, List.map_nil, Nat.reduceAdd, a0, a1, a7, a8, a9, en1]))
            | ((first | apply Ops.nil | apply Drs.nil | apply Ok.skip | apply Ok.exit | apply Ok.ret); try simp only [Then_n, Then_e, Then_r, Out_n, Out_e, Out_r, Nat.reduceEqDiff, reduceIte])
            | (apply Ok.drs (S := SC) hmix)
            )
          apply Drs.call
          case e => (simp (disch := omega) only [evs, evt, Int.reduceToNat, Int.reduceEq, Int.reduceLT, Int.reduceLE, decide_true, decide_false, Nat.reduceEqDiff, Nat.reduceLT, reduceIte, cond_true, cond_false, List.map_cons, List.map_nil, Nat.reduceAdd]; rfl)
          case hf => exact sc_num (by omega) (by rw [reFloor_floor, reFloor_next]; exact Nat.le_refl _)
          case k =>
          intro y g2 hy
          obtain ⟨rfl, s5⟩ := hy _ rfl
          have o6 := o5.grow s5.unfloor
          rw [Int.toNat_natCast, hnum]
          have hb6 := b2s_lst o6 (by simp)
          repeat (first
            | ((first | apply Ops.op | apply Ops.op0 | apply Drs.bar | apply Drs.pure); case e => (intro k; simp (disch := omega) only [evs, evt, Int.reduceToNat, Int.reduceEq, Int.reduceLT, Int.reduceLE, decide_true, decide_false, Nat.reduceEqDiff, Nat.reduceLT, reduceIte, cond_true, cond_false, List.map_cons, List.map_nil, Nat.reduceAdd, a0, a1, a7, a8, a9, b2sV_refloor, hb6]; rfl))
            | ((first | apply Ops.g1 | apply Drs.g1); case e => (simp (disch := omega) only [evs, evt, Int.reduceToNat, Int.reduceEq, Int.reduceLT, Int.reduceLE, decide_true, decide_false, Nat.reduceEqDiff, Nat.reduceLT, reduceIte, cond_true, cond_false, List.map_cons, List.map_nil, Nat.reduceAdd, a0, a1, a7, a8, a9, b2sV_refloor, hb6]))
            | ((first | apply Ops.g0t | apply Ops.g0f | apply Drs.g0t | apply Drs.g0f); case e => (simp (disch := omega) only [evs, evt, Int.reduceToNat, Int.reduceEq, Int.reduceLT, Int.reduceLE, decide_true, decide_false, Nat.reduceEqDiff, Nat.reduceLT, reduceIte, cond_true, cond_false, List.map_cons, List.map_nil, Nat.reduceAdd, a0, a1, a7, a8, a9, b2sV_refloor, hb6]))
            | ((first | apply Ops.g0u | apply Drs.g0u); case e => (simp (disch := omega) only [evs, evt, Int.reduceToNat, Int.reduceEq, Int.reduceLT, Int.reduceLE, decide_true, decide_false, Nat.reduceEqDiff, Nat.reduceLT, reduceIte, cond_true, cond_false, List.map_cons, List.map_nil, Nat.reduceAdd, a0, a1, a7, a8, a9, b2sV_refloor, hb6]))
            | apply Ok.seq
            | apply Ok.block
            | (apply Ok.ops (S := SC))
            | (apply Ok.condT; case e => (simp (disch := omega) only [evs, evt, Int.reduceToNat, Int.reduceEq, Int.reduceLT, Int.reduceLE, decide_true, decide_false, Nat.reduceEqDiff, Nat.reduceLT, reduceIte, cond_true, cond_false, List.map_cons, List.map_nil, Nat.reduceAdd, a0, a1, a7, a8, a9, b2sV_refloor, hb6]))
            | (apply Ok.condF; case e => (simp (disch := omega) only [evs, evt, Int.reduceToNat, Int.reduceEq, Int.reduceLT, Int.reduceLE, decide_true, decide_false, Nat.reduceEqDiff, Nat.reduceLT, reduceIte, cond_true, cond_false, List.map_cons, List.map_nil, Nat.reduceAdd, a0, a1, a7, a8, a9, b2sV_refloor, hb6]))
            | ((first | apply Ops.nil | apply Drs.nil | apply Ok.skip | apply Ok.exit | apply Ok.ret); try simp only [Then_n, Then_e, Then_r, Out_n, Out_e, Out_r, Nat.reduceEqDiff, reduceIte])
            | (apply Ok.drs (S := SC) hmix)
            )
          exact ⟨_, fun k => res_1 _ _ _ k, by simp (disch := omega) only [evs, evt, Int.reduceToNat, Int.reduceEq, Int.reduceLT, Int.reduceLE, decide_true, decide_false, Nat.reduceEqDiff, Nat.reduceLT, reduceIte, cond_true, cond_false, List.map_cons, List.map_nil, Nat.reduceAdd, one_1]⟩
  · exact ⟨2, xs0, Nat.le_refl _, by omega, rfl, st3, o3, hx0, ht0, by simp (disch := omega) only [evs, evt, Int.reduceToNat, Int.reduceEq, Int.reduceLT, Int.reduceLE, decide_true, decide_false, Nat.reduceEqDiff, Nat.reduceLT, reduceIte, cond_true, cond_false, List.map_cons, List.map_nil, Nat.reduceAdd, f0], by simp (disch := omega) only [evs, evt, Int.reduceToNat, Int.reduceEq, Int.reduceLT, Int.reduceLE, decide_true, decide_false, Nat.reduceEqDiff, Nat.reduceLT, reduceIte, cond_true, cond_false, List.map_cons, List.map_nil, Nat.reduceAdd, f1], by simp (disch := omega) only [evs, evt, Int.reduceToNat, Int.reduceEq, Int.reduceLT, Int.reduceLE, decide_true, decide_false, Nat.reduceEqDiff, Nat.reduceLT, reduceIte, cond_true, cond_false, List.map_cons, List.map_nil, Nat.reduceAdd, f7], by simp (disch := omega) only [evs, evt, Int.reduceToNat, Int.reduceEq, Int.reduceLT, Int.reduceLE, decide_true, decide_false, Nat.reduceEqDiff, Nat.reduceLT, reduceIte, cond_true, cond_false, List.map_cons, List.map_nil, Nat.reduceAdd], by simp (disch := omega) only [evs, evt, Int.reduceToNat, Int.reduceEq, Int.reduceLT, Int.reduceLE, decide_true, decide_false, Nat.reduceEqDiff, Nat.reduceLT, reduceIte, cond_true, cond_false, List.map_cons, List.map_nil, Nat.reduceAdd]⟩
end Go.Proofs.Ytpnflehemjbemaa
