/- Names, heads, prefixes, lines of plans, by what they compute. No condition. -/
import Derived.Test.YtckkoollolacoaaJrPlan
import Derived.Test.YtckkoollolacoaaNRef
set_option maxRecDepth 100000
set_option maxHeartbeats 8000000
set_option linter.all false
namespace Go.Proofs.Ytckkoollolacoaa
open Go Go.Ev

/-- a level's name -/
def nameB (n : Int) : List UInt8 := if 0 ≤ n ∧ n < 6 then [UInt8.ofNat (97 + n.toNat)] else []
/-- the level of a name -/
def levelP (l : List UInt8) : Int × Bool := if l.length = 1 ∧ 97 ≤ (l.getD 0 0).toNat ∧ (l.getD 0 0).toNat < 103 then ((((l.getD 0 0).toNat - 97 : Nat) : Int), true) else (0, false)
theorem nameB_in {n : Int} (h0 : 0 ≤ n) (h1 : n < 6) : nameB n = [UInt8.ofNat (97 + n.toNat)] := if_pos ⟨h0, h1⟩
theorem nameB_out {n : Int} (h : ¬ (0 ≤ n ∧ n < 6)) : nameB n = [] := if_neg h
theorem nameB_len (n : Int) : (nameB n).length ≤ 1 := by unfold nameB; split <;> simp
section
variable {h : H}
theorem level_any {f : Nat} {cc : CC} (hcf : compFn Try.prog f = ⟨21, cc, [Rs.tmp (slOf 2), Rs.tmp (slOf 3)]⟩) (hcc : cc = b9) {l : List UInt8} (hl : l.length ≤ 9223372036854775807) : FnOk Try.prog f [sv l] h fun y h' => y = .tu [.i .i64 (levelP l).1, .b (levelP l).2] ∧ h' = h := by
  refine fn_go hcf (by rw [hcc]; intro hb; cases hb) (by simp) (by simp) fun Q hQ => ?_
  simp only [slotsF, Nat.reduceAdd]
  rw [hcc]
  have hb := (l.getD 0 0).toNat_lt
  have bad : ¬ (l.length = 1 ∧ 97 ≤ (l.getD 0 0).toNat ∧ (l.getD 0 0).toNat < 103) → levelP l = (0, false) := fun h => if_neg h
  repeat' (first
    | with_reducible (first | apply Ok.sq | apply Ok.block | apply Ok.rg | apply Ok.dw hmix | apply Ok.cd | apply Ok.skip | apply Ok.exit | apply Ok.ret)
    | simp (disch := first | omega | (simp only [List.length_append, List.length_cons, List.length_nil, List.length_take, List.length_drop, List.length_map, List.length_set]; omega)) only [wlk, ↓get_put', Nat.reduceEqDiff, Nat.reduceLT, ↓reduceIte, Int.reduceToNat, Nat.reducePow, Nat.min_eq_left, Nat.reduceAdd, Nat.reduceMul, Int.reduceAdd, Int.reduceSub, Int.reduceNeg, Int.reduceMul, Int.reduceEq, Int.reduceLT, Int.reduceLE, Nat.reduceSub, Int.reduceNatCast, Nat.reduceLeDiff]
    | (with_reducible (first | apply cd_split | apply gd_split)) <;> (intro hc; (try simp only [Bool.not_eq_true', Bool.not_eq_false'] at hc); (try simp only [hc]); (try simp only [hcl, Int.not_lt, Int.not_le, Nat.not_lt, Nat.not_le] at hc); try omega))
  all_goals subst hQ
  · exact ⟨by rw [bad (by omega)], rfl⟩
  · exact ⟨by rw [bad (by omega)], rfl⟩
  · exact ⟨by rw [bad (by omega)], rfl⟩
  · refine ⟨?_, rfl⟩
    rw [show levelP l = ((((l.getD 0 0).toNat - 97 : Nat) : Int), true) from if_pos ⟨by omega, by omega, by omega⟩]
    congr 3
    omega
theorem level_ok {l : List UInt8} (hl : l.length ≤ 9223372036854775807) : FnOk Try.prog 9 [sv l] h fun y h' => y = .tu [.i .i64 (levelP l).1, .b (levelP l).2] ∧ h' = h := level_any c9 rfl hl
theorem rlevel_ok {l : List UInt8} (hl : l.length ≤ 9223372036854775807) : FnOk Try.prog 10 [sv l] h fun y h' => y = .tu [.i .i64 (levelP l).1, .b (levelP l).2] ∧ h' = h := level_any c10 rfl hl
theorem name_ok (n : Int) : FnOk Try.prog 14 [.i .i64 n] h fun y h' => y = sv (nameB n) ∧ h' = h := by
  refine fn_go c14 (by intro hb; cases hb) (by simp) (by simp) fun Q hQ => ?_
  simp only [slotsF, Nat.reduceAdd]
  repeat' (first
    | with_reducible (first | apply Ok.sq | apply Ok.block | apply Ok.rg | apply Ok.dw hmix | apply Ok.cd | apply Ok.skip | apply Ok.exit | apply Ok.ret)
    | simp (disch := first | omega | (simp only [List.length_append, List.length_cons, List.length_nil, List.length_take, List.length_drop, List.length_map, List.length_set]; omega)) only [wlk, ↓get_put', Nat.reduceEqDiff, Nat.reduceLT, ↓reduceIte, Int.reduceToNat, Nat.reducePow, Nat.min_eq_left, Nat.reduceAdd, Nat.reduceMul, Int.reduceAdd, Int.reduceSub, Int.reduceNeg, Int.reduceMul, Int.reduceEq, Int.reduceLT, Int.reduceLE, Nat.reduceSub, Int.reduceNatCast, Nat.reduceLeDiff]
    | (with_reducible (first | apply cd_split | apply gd_split)) <;> (intro hc; (try simp only [Bool.not_eq_true', Bool.not_eq_false'] at hc); (try simp only [hc]); (try simp only [hcl, Int.not_lt, Int.not_le, Nat.not_lt, Nat.not_le] at hc); try omega))
  all_goals subst hQ
  · exact ⟨by rw [nameB_out (by omega)], rfl⟩
  · exact ⟨by rw [nameB_out (by omega)], rfl⟩
  · exact ⟨by rw [nameB_in (by omega) (by omega), show (97 + n).toNat = 97 + n.toNat by omega], rfl⟩
theorem rname_ok (n : Int) (hf : B.val h.floor ≤ B.val h.next) : FnOk Try.prog 15 [.i .i64 n] h fun y h' => y = sv (nameB n) ∧ Stay nowhere h h' := by
  refine fn_go c15 (by intro hb; cases hb) (by simp) (by simp) fun Q hQ => ?_
  simp only [slotsF, Nat.reduceAdd]
  repeat' (first
    | with_reducible (first | apply Ok.sq | apply Ok.block | apply Ok.rg | apply Ok.dw hmix | apply Ok.cd | apply Ok.skip | apply Ok.exit | apply Ok.ret)
    | simp (disch := first | omega | (simp only [List.length_append, List.length_cons, List.length_nil, List.length_take, List.length_drop, List.length_map, List.length_set]; omega)) only [wlk, ↓get_put', Nat.reduceEqDiff, Nat.reduceLT, ↓reduceIte, Int.reduceToNat, Nat.reducePow, Nat.min_eq_left, Nat.reduceAdd, Nat.reduceMul, Int.reduceAdd, Int.reduceSub, Int.reduceNeg, Int.reduceMul, Int.reduceEq, Int.reduceLT, Int.reduceLE, Nat.reduceSub, Int.reduceNatCast, Nat.reduceLeDiff]
    | (with_reducible (first | apply cd_split | apply gd_split)) <;> (intro hc; (try simp only [Bool.not_eq_true', Bool.not_eq_false'] at hc); (try simp only [hc]); (try simp only [hcl, Int.not_lt, Int.not_le, Nat.not_lt, Nat.not_le] at hc); try omega))
  · subst hQ; exact ⟨by rw [nameB_out (by omega)], Stay.refl _ _⟩
  · subst hQ; exact ⟨by rw [nameB_out (by omega)], Stay.refl _ _⟩
  refine AL.str (bs := [UInt8.ofNat (97 + n.toNat)]) (by rw [bv_i (by omega) (by omega), show (97 + n).toNat = 97 + n.toNat by omega]; rfl) (by simp) rfl rfl (by simp) hf fun h1 u s1 => ?_
  repeat' (first
    | with_reducible (first | apply Ok.sq | apply Ok.block | apply Ok.rg | apply Ok.dw hmix | apply Ok.cd | apply Ok.skip | apply Ok.exit | apply Ok.ret)
    | simp (disch := first | omega | (simp only [List.length_append, List.length_cons, List.length_nil, List.length_take, List.length_drop, List.length_map, List.length_set]; omega)) only [wlk, ↓get_put', Nat.reduceEqDiff, Nat.reduceLT, ↓reduceIte, Int.reduceToNat, Nat.reducePow, Nat.min_eq_left, Nat.reduceAdd, Nat.reduceMul, Int.reduceAdd, Int.reduceSub, Int.reduceNeg, Int.reduceMul, Int.reduceEq, Int.reduceLT, Int.reduceLE, Nat.reduceSub, Int.reduceNatCast, Nat.reduceLeDiff]
    | (with_reducible (first | apply cd_split | apply gd_split)) <;> (intro hc; (try simp only [Bool.not_eq_true', Bool.not_eq_false'] at hc); (try simp only [hc]); (try simp only [hcl, Int.not_lt, Int.not_le, Nat.not_lt, Nat.not_le] at hc); try omega))
  subst hQ
  exact ⟨by rw [nameB_in (by omega) (by omega)], s1⟩
theorem head_ok (n : Int) : FnOk Try.prog 27 [.i .i64 n] h fun y h' => y = sv (nameB n ++ [62]) ∧ h' = h := by
  refine fn_go c27 (by intro hb; cases hb) (by simp) (by simp) fun Q hQ => ?_
  simp only [slotsF, Nat.reduceAdd]
  have hn := nameB_len n
  repeat' (first
    | with_reducible (first | apply Ok.sq | apply Ok.block | apply Ok.rg | apply Ok.dw hmix | apply Ok.cd | apply Ok.skip | apply Ok.exit | apply Ok.ret)
    | simp (disch := first | omega | (simp only [List.length_append, List.length_cons, List.length_nil, List.length_take, List.length_drop, List.length_map, List.length_set]; omega)) only [wlk, ↓get_put', Nat.reduceEqDiff, Nat.reduceLT, ↓reduceIte, Int.reduceToNat, Nat.reducePow, Nat.min_eq_left, Nat.reduceAdd, Nat.reduceMul, Int.reduceAdd, Int.reduceSub, Int.reduceNeg, Int.reduceMul, Int.reduceEq, Int.reduceLT, Int.reduceLE, Nat.reduceSub, Int.reduceNatCast, Nat.reduceLeDiff]
    | (with_reducible (first | apply cd_split | apply gd_split)) <;> (intro hc; (try simp only [Bool.not_eq_true', Bool.not_eq_false'] at hc); (try simp only [hc]); (try simp only [hcl, Int.not_lt, Int.not_le, Nat.not_lt, Nat.not_le] at hc); try omega))
  refine CL.pure (name_ok n) ?_
  repeat' (first
    | with_reducible (first | apply Ok.sq | apply Ok.block | apply Ok.rg | apply Ok.dw hmix | apply Ok.cd | apply Ok.skip | apply Ok.exit | apply Ok.ret)
    | simp (disch := first | omega | (simp only [List.length_append, List.length_cons, List.length_nil, List.length_take, List.length_drop, List.length_map, List.length_set]; omega)) only [wlk, ↓get_put', Nat.reduceEqDiff, Nat.reduceLT, ↓reduceIte, Int.reduceToNat, Nat.reducePow, Nat.min_eq_left, Nat.reduceAdd, Nat.reduceMul, Int.reduceAdd, Int.reduceSub, Int.reduceNeg, Int.reduceMul, Int.reduceEq, Int.reduceLT, Int.reduceLE, Nat.reduceSub, Int.reduceNatCast, Nat.reduceLeDiff]
    | (with_reducible (first | apply cd_split | apply gd_split)) <;> (intro hc; (try simp only [Bool.not_eq_true', Bool.not_eq_false'] at hc); (try simp only [hc]); (try simp only [hcl, Int.not_lt, Int.not_le, Nat.not_lt, Nat.not_le] at hc); try omega))
  subst hQ
  exact ⟨rfl, rfl⟩
def preB (s p : List UInt8) : Bool := decide (p.length ≤ s.length) && decide (s.take p.length = p)
theorem prefix1_ok {s p : List UInt8} (hs : s.length ≤ 9223372036854775807) (hp : p.length ≤ 9223372036854775807) : FnOk Try.prog 40 [sv s, sv p] h fun y h' => y = .b (preB s p) ∧ h' = h := by
  refine fn_go c40 (by intro hb; cases hb) (by simp) (by simp) fun Q hQ => ?_
  simp only [slotsF, Nat.reduceAdd]
  repeat' (first
    | with_reducible (first | apply Ok.sq | apply Ok.block | apply Ok.rg | apply Ok.dw hmix | apply Ok.cd | apply Ok.skip | apply Ok.exit | apply Ok.ret)
    | simp (disch := first | omega | (simp only [List.length_append, List.length_cons, List.length_nil, List.length_take, List.length_drop, List.length_map, List.length_set]; omega)) only [wlk, ↓get_put', Nat.reduceEqDiff, Nat.reduceLT, ↓reduceIte, Int.reduceToNat, Nat.reducePow, Nat.min_eq_left, Nat.reduceAdd, Nat.reduceMul, Int.reduceAdd, Int.reduceSub, Int.reduceNeg, Int.reduceMul, Int.reduceEq, Int.reduceLT, Int.reduceLE, Nat.reduceSub, Int.reduceNatCast, Nat.reduceLeDiff, Int.toNat_natCast]
    | (with_reducible (first | apply cd_split | apply gd_split)) <;> (intro hc; (try simp only [Bool.not_eq_true', Bool.not_eq_false'] at hc); (try simp only [hc]); (try simp only [hcl, Int.not_lt, Int.not_le, Nat.not_lt, Nat.not_le] at hc); try omega))
  all_goals subst hQ
  all_goals unfold preB
  · exact ⟨by rw [decide_eq_true (p := p.length ≤ s.length) (by omega)]; simp, rfl⟩
  · exact ⟨by rw [decide_eq_false (p := p.length ≤ s.length) (by omega)]; rfl, rfl⟩
theorem prefix_ok {s p : List UInt8} (hs : s.length ≤ 9223372036854775807) (hp : p.length ≤ 9223372036854775807) : FnOk Try.prog 34 [sv s, sv p] h fun y h' => y = .b (preB s p) ∧ h' = h := by
  refine fn_go c34 (by intro hb; cases hb) (by simp) (by simp) fun Q hQ => ?_
  simp only [slotsF, Nat.reduceAdd]
  repeat' (first
    | with_reducible (first | apply Ok.sq | apply Ok.block | apply Ok.rg | apply Ok.dw hmix | apply Ok.cd | apply Ok.skip | apply Ok.exit | apply Ok.ret)
    | simp (disch := first | omega | (simp only [List.length_append, List.length_cons, List.length_nil, List.length_take, List.length_drop, List.length_map, List.length_set]; omega)) only [wlk, ↓get_put', Nat.reduceEqDiff, Nat.reduceLT, ↓reduceIte, Int.reduceToNat, Nat.reducePow, Nat.min_eq_left, Nat.reduceAdd, Nat.reduceMul, Int.reduceAdd, Int.reduceSub, Int.reduceNeg, Int.reduceMul, Int.reduceEq, Int.reduceLT, Int.reduceLE, Nat.reduceSub, Int.reduceNatCast, Nat.reduceLeDiff]
    | (with_reducible (first | apply cd_split | apply gd_split)) <;> (intro hc; (try simp only [Bool.not_eq_true', Bool.not_eq_false'] at hc); (try simp only [hc]); (try simp only [hcl, Int.not_lt, Int.not_le, Nat.not_lt, Nat.not_le] at hc); try omega))
  refine CL.pure (prefix1_ok hs hp) ?_
  repeat' (first
    | with_reducible (first | apply Ok.sq | apply Ok.block | apply Ok.rg | apply Ok.dw hmix | apply Ok.cd | apply Ok.skip | apply Ok.exit | apply Ok.ret)
    | simp (disch := first | omega | (simp only [List.length_append, List.length_cons, List.length_nil, List.length_take, List.length_drop, List.length_map, List.length_set]; omega)) only [wlk, ↓get_put', Nat.reduceEqDiff, Nat.reduceLT, ↓reduceIte, Int.reduceToNat, Nat.reducePow, Nat.min_eq_left, Nat.reduceAdd, Nat.reduceMul, Int.reduceAdd, Int.reduceSub, Int.reduceNeg, Int.reduceMul, Int.reduceEq, Int.reduceLT, Int.reduceLE, Nat.reduceSub, Int.reduceNatCast, Nat.reduceLeDiff]
    | (with_reducible (first | apply cd_split | apply gd_split)) <;> (intro hc; (try simp only [Bool.not_eq_true', Bool.not_eq_false'] at hc); (try simp only [hc]); (try simp only [hcl, Int.not_lt, Int.not_le, Nat.not_lt, Nat.not_le] at hc); try omega))
  subst hQ
  exact ⟨rfl, rfl⟩
/-- of the first i bytes: the lines that are ended, and where the next one begins -/
def lnS (s : List UInt8) : Nat → List (List UInt8) × Nat
  | 0 => ([], 0)
  | i + 1 => if s.getD i 0 = 10 then ((lnS s i).1 ++ [(s.take i).drop (lnS s i).2], i + 1) else lnS s i
theorem lnS_le (s : List UInt8) : ∀ i, (lnS s i).2 ≤ i ∧ (lnS s i).1.length ≤ i
  | 0 => ⟨Nat.le_refl _, Nat.le_refl _⟩
  | i + 1 => by
    have := lnS_le s i
    unfold lnS
    split
    · simp; omega
    · omega
theorem lines_ok {s : List UInt8} (hs : s.length ≤ 1000000) (hf : B.val h.floor ≤ B.val h.next) : FnOk Try.prog 24 [sv s] h fun y h' => ∃ w, y = .tu [w, .b (decide ((lnS s s.length).2 = s.length))] ∧ Vb h' (B.val h.next) 9 w ((lnS s s.length).1.map sv) ∧ Stay nowhere h h' := by
  refine fn_go c24 (by intro hb; cases hb) (by simp) (by simp) fun Q hQ => ?_
  simp only [slotsF, Nat.reduceAdd]
  repeat' (first
    | with_reducible (first | apply Ok.sq | apply Ok.block | apply Ok.rg | apply Ok.dw hmix | apply Ok.cd | apply Ok.skip | apply Ok.exit | apply Ok.ret)
    | simp (disch := first | omega | (simp only [List.length_append, List.length_cons, List.length_nil, List.length_take, List.length_drop, List.length_map, List.length_set]; omega)) only [wlk, ↓get_put', Nat.reduceEqDiff, Nat.reduceLT, ↓reduceIte, Int.reduceToNat, Nat.reducePow, Nat.min_eq_left, Nat.reduceAdd, Nat.reduceMul, Int.reduceAdd, Int.reduceSub, Int.reduceNeg, Int.reduceMul, Int.reduceEq, Int.reduceLT, Int.reduceLE, Nat.reduceSub, Int.reduceNatCast, Nat.reduceLeDiff]
    | (with_reducible (first | apply cd_split | apply gd_split)) <;> (intro hc; (try simp only [Bool.not_eq_true', Bool.not_eq_false'] at hc); (try simp only [hc]); (try simp only [hcl, Int.not_lt, Int.not_le, Nat.not_lt, Nat.not_le] at hc); try omega))
  refine Ok.lp (fun m t g => ∃ (i : Nat) (w : V), i ≤ s.length ∧ m = s.length - i ∧ Stay nowhere h g ∧ get 0 t = sv s ∧ get 4 t = w ∧ get 5 t = .i .i64 ((lnS s i).2 : Int) ∧ get 6 t = .i .i64 (i : Int) ∧ Vb g (B.val h.next) 9 w ((lnS s i).1.map sv)) s.length ?_ ?_
  · simp (disch := first | omega | (simp only [List.length_append, List.length_cons, List.length_nil, List.length_take, List.length_drop, List.length_map, List.length_set]; omega)) only [wlk, ↓get_put', Nat.reduceEqDiff, Nat.reduceLT, ↓reduceIte, Int.reduceToNat, Nat.reducePow, Nat.min_eq_left, Nat.reduceAdd, Nat.reduceMul, Int.reduceAdd, Int.reduceSub, Int.reduceNeg, Int.reduceMul, Int.reduceEq, Int.reduceLT, Int.reduceLE, Nat.reduceSub, Int.reduceNatCast, Nat.reduceLeDiff]
    exact ⟨0, .l0, by omega, rfl, Stay.refl _ _, trivial, rfl, rfl, rfl, Vb.nil _ _ _⟩
  rintro I hI m t g ⟨i, w, hi, rfl, st, f0, f4, f5, f6, hw⟩
  have hfg := st.fl hf
  obtain ⟨ln1, ln2⟩ := lnS_le s i
  have hb := (s.getD i 0).toNat_lt
  repeat' (first
    | with_reducible (first | apply Ok.sq | apply Ok.block | apply Ok.rg | apply Ok.dw hmix | apply Ok.cd | apply Ok.skip | apply Ok.exit | apply Ok.ret)
    | simp (disch := first | omega | (simp only [List.length_append, List.length_cons, List.length_nil, List.length_take, List.length_drop, List.length_map, List.length_set]; omega)) only [wlk, ↓get_put', Nat.reduceEqDiff, Nat.reduceLT, ↓reduceIte, Int.reduceToNat, Nat.reducePow, Nat.min_eq_left, Nat.reduceAdd, Nat.reduceMul, Int.reduceAdd, Int.reduceSub, Int.reduceNeg, Int.reduceMul, Int.reduceEq, Int.reduceLT, Int.reduceLE, Nat.reduceSub, Int.reduceNatCast, Nat.reduceLeDiff, f0, f4, f5, f6, Int.toNat_natCast]
    | (with_reducible (first | apply cd_split | apply gd_split)) <;> (intro hc; (try simp only [Bool.not_eq_true', Bool.not_eq_false'] at hc); (try simp only [hc]); (try simp only [hcl, Int.not_lt, Int.not_le, Nat.not_lt, Nat.not_le] at hc); try omega))
  · have h10 : s.getD i 0 = 10 := UInt8.toNat_inj.1 (by show _ = 10; omega)
    have e : lnS s (i + 1) = ((lnS s i).1 ++ [(s.take i).drop (lnS s i).2], i + 1) := if_pos h10
    refine AL.push hw (fun u => by simp (disch := first | omega | (simp only [List.length_append, List.length_cons, List.length_nil, List.length_take, List.length_drop, List.length_map, List.length_set]; omega)) only [wlk, ↓get_put', Nat.reduceEqDiff, Nat.reduceLT, ↓reduceIte, Int.reduceToNat, Nat.reducePow, Nat.min_eq_left, Nat.reduceAdd, Nat.reduceMul, Int.reduceAdd, Int.reduceSub, Int.reduceNeg, Int.reduceMul, Int.reduceEq, Int.reduceLT, Int.reduceLE, Nat.reduceSub, Int.reduceNatCast, Nat.reduceLeDiff, f4]) rfl rfl hfg st.next (by rw [List.length_map]; omega) fun w' g2 u hw' s3 hi2 tp => ?_
    repeat' (first
      | with_reducible (first | apply Ok.sq | apply Ok.block | apply Ok.rg | apply Ok.dw hmix | apply Ok.cd | apply Ok.skip | apply Ok.exit | apply Ok.ret)
      | simp (disch := first | omega | (simp only [List.length_append, List.length_cons, List.length_nil, List.length_take, List.length_drop, List.length_map, List.length_set]; omega)) only [wlk, ↓get_put', Nat.reduceEqDiff, Nat.reduceLT, ↓reduceIte, Int.reduceToNat, Nat.reducePow, Nat.min_eq_left, Nat.reduceAdd, Nat.reduceMul, Int.reduceAdd, Int.reduceSub, Int.reduceNeg, Int.reduceMul, Int.reduceEq, Int.reduceLT, Int.reduceLE, Nat.reduceSub, Int.reduceNatCast, Nat.reduceLeDiff, f0, f5, f6]
      | (with_reducible (first | apply cd_split | apply gd_split)) <;> (intro hc; (try simp only [Bool.not_eq_true', Bool.not_eq_false'] at hc); (try simp only [hc]); (try simp only [hcl, Int.not_lt, Int.not_le, Nat.not_lt, Nat.not_le] at hc); try omega))
    refine lp_next hI (s.length - (i + 1)) (by omega) ⟨i + 1, w', by omega, rfl, st.past' s3 fun i hi => hw.own i hi, ?_, ?_, ?_, ?_, by rw [e, List.map_append]; exact hw'⟩
    all_goals (simp (disch := first | omega | (simp only [List.length_append, List.length_cons, List.length_nil, List.length_take, List.length_drop, List.length_map, List.length_set]; omega)) only [wlk, ↓get_put', Nat.reduceEqDiff, Nat.reduceLT, ↓reduceIte, Int.reduceToNat, Nat.reducePow, Nat.min_eq_left, Nat.reduceAdd, Nat.reduceMul, Int.reduceAdd, Int.reduceSub, Int.reduceNeg, Int.reduceMul, Int.reduceEq, Int.reduceLT, Int.reduceLE, Nat.reduceSub, Int.reduceNatCast, Nat.reduceLeDiff, f0, e]; try rfl)
  · have h10 : ¬ s.getD i 0 = 10 := fun e => by rw [e] at hc; exact hc rfl
    have e : lnS s (i + 1) = lnS s i := if_neg h10
    refine lp_next hI (s.length - (i + 1)) (by omega) ⟨i + 1, w, by omega, rfl, st, ?_, ?_, ?_, ?_, by rw [e]; exact hw⟩
    all_goals (simp (disch := first | omega | (simp only [List.length_append, List.length_cons, List.length_nil, List.length_take, List.length_drop, List.length_map, List.length_set]; omega)) only [wlk, ↓get_put', Nat.reduceEqDiff, Nat.reduceLT, ↓reduceIte, Int.reduceToNat, Nat.reducePow, Nat.min_eq_left, Nat.reduceAdd, Nat.reduceMul, Int.reduceAdd, Int.reduceSub, Int.reduceNeg, Int.reduceMul, Int.reduceEq, Int.reduceLT, Int.reduceLE, Nat.reduceSub, Int.reduceNatCast, Nat.reduceLeDiff, f0, f4, f5, e]; try rfl)
  · obtain rfl : i = s.length := by omega
    subst hQ
    refine ⟨w, ?_, hw, st⟩
    congr 3
    congr 1
    rw [decide_eq_decide]; omega
end
end Go.Proofs.Ytckkoollolacoaa
