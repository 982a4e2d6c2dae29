/- Texts of ours, without what this claim does not use: NBkP JrBk2 Knravelinlaw8 NBk3 NBk4 ArgE BlockBack. No condition. -/
import Derived.Test.YtjlhfoadabkahaaPkBlockBack4
import Derived.Test.YtjlhfoadabkahaaProg
import Derived.KernelRfl
import Derived.Test.YtjlhfoadabkahaaRows
import Derived.WalkKit
import Derived.ProofKit
import Derived.OpenShut
import Derived.ChangeMaps5
set_option maxRecDepth 100000
set_option maxHeartbeats 8000000
set_option linter.all false
namespace Go.Proofs.Ytjlhfoadabkahaa
open Go Go.Ev
theorem bshared_ok {h : H} {a b : List UInt8} (ha : a.length ≤ 1000000) (hb : b.length ≤ 1000000) : FnOk Try.prog 44 [sv a, sv b] h fun y h' => y = .i .i64 (sharedB a b : Int) ∧ h' = h := by
  refine fn_go c44 (by intro hb; cases hb) (by simp) (by simp) fun Q hQ => ?_
  simp only [slotsF, Nat.reduceAdd]
  repeat' (first
    | refine St.h ?_
    | simp (disch := first | omega | (simp only [lnv]; omega)) only [wlk, ↓get_put', Nat.reduceEqDiff, Nat.reduceLT, ↓reduceIte, Int.reduceToNat, Nat.reducePow, Nat.min_eq_left, Nat.reduceAdd, Nat.reduceMul, Int.reduceAdd, Int.reduceSub, Int.reduceNeg, Int.reduceMul, Int.reduceEq, Int.reduceLT, Int.reduceLE, Nat.reduceSub, Int.reduceNatCast, Nat.reduceLeDiff]
    | (with_reducible (first | apply cd_split | apply gd_split)) <;> (intro hc; (try simp only [hcn] at hc); (try simp only [hc]); (try simp only [hcl] at hc); try omega))
  have hmn : (min (a.length : Int) (b.length : Int)) = ((min a.length b.length : Nat) : Int) := by omega
  refine Ok.lp (fun m t g => ∃ n : Nat, m = a.length - n ∧ h = g ∧ n ≤ a.length ∧ n ≤ b.length ∧ (∀ i, i < n → a.getD i 0 = b.getD i 0) ∧ get 0 t = sv a ∧ get 1 t = sv b ∧ get 5 t = .i .i64 ((min a.length b.length : Nat) : Int) ∧ get 6 t = .i .i64 (n : Int)) a.length ?_ ?_
  · simp (disch := first | omega | (simp only [lnv]; omega)) only [wlk, ↓get_put', Nat.reduceEqDiff, Nat.reduceLT, ↓reduceIte, Int.reduceToNat, Nat.reducePow, Nat.min_eq_left, Nat.reduceAdd, Nat.reduceMul, Int.reduceAdd, Int.reduceSub, Int.reduceNeg, Int.reduceMul, Int.reduceEq, Int.reduceLT, Int.reduceLE, Nat.reduceSub, Int.reduceNatCast, Nat.reduceLeDiff, hmn]
    refine ⟨0, by omega, trivial, by omega, by omega, fun i hi => by omega, ?_⟩
    repeat' (first | trivial | rfl | refine And.intro ?_ ?_)
  rintro I hI m t g ⟨n, rfl, rfl, h1, h2, he, f0, f1, f5, f6⟩
  have da : n < a.length → (a.getD n 0).toNat < 256 := fun _ => (a.getD n 0).toNat_lt
  have fin : (n = a.length ∨ n = b.length ∨ a.getD n 0 ≠ b.getD n 0) → sharedB a b = n := sharedB_at h1 h2 he
  repeat' (first
    | refine St.h ?_
    | simp (disch := first | omega | (simp only [lnv]; omega)) only [wlk, ↓get_put', Nat.reduceEqDiff, Nat.reduceLT, ↓reduceIte, Int.reduceToNat, Nat.reducePow, Nat.min_eq_left, Nat.reduceAdd, Nat.reduceMul, Int.reduceAdd, Int.reduceSub, Int.reduceNeg, Int.reduceMul, Int.reduceEq, Int.reduceLT, Int.reduceLE, Nat.reduceSub, Int.reduceNatCast, Nat.reduceLeDiff, f0, f1, f5, f6, Int.toNat_natCast]
    | (with_reducible (first | apply cd_split | apply gd_split)) <;> (intro hc; (try simp only [hcn] at hc); (try simp only [hc]); (try simp only [hcl] at hc); try omega))
  · refine lp_next hI (a.length - (n + 1)) (by omega) ⟨n + 1, rfl, rfl, by omega, by omega, fun i hi => ?_, ?_, ?_, ?_, ?_⟩
    · by_cases e : i = n
      · subst e; exact UInt8.toNat_inj.1 (by omega)
      · exact he i (by omega)
    · simp (disch := first | omega | (simp only [lnv]; omega)) only [wlk, ↓get_put', Nat.reduceEqDiff, Nat.reduceLT, ↓reduceIte, Int.reduceToNat, Nat.reducePow, Nat.min_eq_left, Nat.reduceAdd, Nat.reduceMul, Int.reduceAdd, Int.reduceSub, Int.reduceNeg, Int.reduceMul, Int.reduceEq, Int.reduceLT, Int.reduceLE, Nat.reduceSub, Int.reduceNatCast, Nat.reduceLeDiff, f0]
    · simp (disch := first | omega | (simp only [lnv]; omega)) only [wlk, ↓get_put', Nat.reduceEqDiff, Nat.reduceLT, ↓reduceIte, Int.reduceToNat, Nat.reducePow, Nat.min_eq_left, Nat.reduceAdd, Nat.reduceMul, Int.reduceAdd, Int.reduceSub, Int.reduceNeg, Int.reduceMul, Int.reduceEq, Int.reduceLT, Int.reduceLE, Nat.reduceSub, Int.reduceNatCast, Nat.reduceLeDiff, f1]
    · simp (disch := first | omega | (simp only [lnv]; omega)) only [wlk, ↓get_put', Nat.reduceEqDiff, Nat.reduceLT, ↓reduceIte, Int.reduceToNat, Nat.reducePow, Nat.min_eq_left, Nat.reduceAdd, Nat.reduceMul, Int.reduceAdd, Int.reduceSub, Int.reduceNeg, Int.reduceMul, Int.reduceEq, Int.reduceLT, Int.reduceLE, Nat.reduceSub, Int.reduceNatCast, Nat.reduceLeDiff, f5]
    · simp (disch := first | omega | (simp only [lnv]; omega)) only [wlk, ↓get_put', Nat.reduceEqDiff, Nat.reduceLT, ↓reduceIte, Int.reduceToNat, Nat.reducePow, Nat.min_eq_left, Nat.reduceAdd, Nat.reduceMul, Int.reduceAdd, Int.reduceSub, Int.reduceNeg, Int.reduceMul, Int.reduceEq, Int.reduceLT, Int.reduceLE, Nat.reduceSub, Int.reduceNatCast, Nat.reduceLeDiff]; rfl
  · subst hQ
    exact ⟨by rw [fin (.inr (.inr fun e => by have := congrArg UInt8.toNat e; omega))], rfl⟩
  · subst hQ
    exact ⟨by rw [fin (by omega)], rfl⟩
theorem drop_bytes {e : Ent} (hi : isE e = true) : (bytesE e).drop (textB e.key).length = tailB e := by
  unfold bytesE; rw [hi]; simp
theorem bytesE_full {e : Ent} (hi : isE e = true) : bytesE e = textB e.key ++ tailB e := by unfold bytesE; rw [hi]; rfl
theorem lay_ok {h : H} {v : V} {L : List Ent} (hL : Es h v L) (hl : L.length ≤ 10000) (ha : L.all isE = true) (hf : B.val h.floor ≤ B.val h.next) : FnOk Try.prog 66 [v] h fun y h' => y = sv (bodyB [] L) ∧ Stay nowhere h h' := by
  refine fn_go c66 (by intro hb; cases hb) (by simp) (by simp) fun Q hQ => ?_
  simp only [slotsF, Nat.reduceAdd]
  repeat' (first
    | refine St.h ?_
    | simp (disch := first | omega | (simp only [lnv]; omega)) only [wlk, ↓get_put', Nat.reduceEqDiff, Nat.reduceLT, ↓reduceIte, Int.reduceToNat, Nat.reducePow, Nat.min_eq_left, Nat.reduceAdd, Nat.reduceMul, Int.reduceAdd, Int.reduceSub, Int.reduceNeg, Int.reduceMul, Int.reduceEq, Int.reduceLT, Int.reduceLE, Nat.reduceSub, Int.reduceNatCast, Nat.reduceLeDiff]
    | (with_reducible (first | apply cd_split | apply gd_split)) <;> (intro hc; (try simp only [hcn] at hc); (try simp only [hc]); (try simp only [hcl] at hc); try omega))
  refine AL.ownE (by simp) hf fun h1 s1 n1 o1 => ?_
  have hf1 := s1.fl hf
  have hL1 := hL.grow s1
  have sb : Sb h1 (B.val h.next) 127 5 h.next (fun i => i = h.next) [] :=
    ⟨⟨.p0, .l0, o1, .inl rfl, Buf.nil _ _ _, fun i hi => absurd hi (by rintro ⟨_, _, _, _, _, e⟩; cases e), by rintro ⟨_, _, _, _, _, e⟩; cases e⟩, rfl, fun i hi => by rw [hi]; exact ⟨Nat.le_refl _, by omega⟩⟩
  have hbl := bodyB_len (p := []) ha
  repeat' (first
    | refine St.h ?_
    | simp (disch := first | omega | (simp only [lnv]; omega)) only [wlk, ↓get_put', Nat.reduceEqDiff, Nat.reduceLT, ↓reduceIte, Int.reduceToNat, Nat.reducePow, Nat.min_eq_left, Nat.reduceAdd, Nat.reduceMul, Int.reduceAdd, Int.reduceSub, Int.reduceNeg, Int.reduceMul, Int.reduceEq, Int.reduceLT, Int.reduceLE, Nat.reduceSub, Int.reduceNatCast, Nat.reduceLeDiff, hL.ln]
    | (with_reducible (first | apply cd_split | apply gd_split)) <;> (intro hc; (try simp only [hcn] at hc); (try simp only [hc]); (try simp only [hcl] at hc); try omega))
  refine Ok.lp (fun m t g => ∃ (j : Nat) (p out : List UInt8) (U : B → Prop), m = L.length - j ∧ j ≤ L.length ∧ p.length ≤ 13 ∧ bodyB [] L = out ++ bodyB p (L.drop j) ∧ Stay nowhere h g ∧ Sb g (B.val h.next) 127 5 h.next U out ∧ get 0 t = v ∧ get 3 t = .p h.next 0 0 2 ∧ get 4 t = sv p ∧ get 8 t = v ∧ get 9 t = .i .i64 (L.length : Int) ∧ get 10 t = .i .i64 (j : Int)) L.length ?_ ?_
  · simp (disch := first | omega | (simp only [lnv]; omega)) only [wlk, ↓get_put', Nat.reduceEqDiff, Nat.reduceLT, ↓reduceIte, Int.reduceToNat, Nat.reducePow, Nat.min_eq_left, Nat.reduceAdd, Nat.reduceMul, Int.reduceAdd, Int.reduceSub, Int.reduceNeg, Int.reduceMul, Int.reduceEq, Int.reduceLT, Int.reduceLE, Nat.reduceSub, Int.reduceNatCast, Nat.reduceLeDiff]
    refine ⟨0, [], [], _, by omega, by omega, by simp, rfl, s1, sb, ?_⟩
    repeat' (first | trivial | rfl | refine And.intro ?_ ?_)
  rintro I hI m t g ⟨j, p, out, U, rfl, hj, hp, hb, st, sbg, f0, f3, f4, f8, f9, f10⟩
  have hfg := st.fl hf
  have hLg := hL.grow st
  by_cases hjl : j < L.length
  case neg =>
    obtain rfl : j = L.length := by omega
    have hb : bodyB [] L = out := by rw [hb, List.drop_length]; simp [bodyB]
    repeat' (first
      | refine St.h ?_
      | simp (disch := first | omega | (simp only [lnv]; omega)) only [wlk, ↓get_put', Nat.reduceEqDiff, Nat.reduceLT, ↓reduceIte, Int.reduceToNat, Nat.reducePow, Nat.min_eq_left, Nat.reduceAdd, Nat.reduceMul, Int.reduceAdd, Int.reduceSub, Int.reduceNeg, Int.reduceMul, Int.reduceEq, Int.reduceLT, Int.reduceLE, Nat.reduceSub, Int.reduceNatCast, Nat.reduceLeDiff, f3, f9, f10]
      | (with_reducible (first | apply cd_split | apply gd_split)) <;> (intro hc; (try simp only [hcn] at hc); (try simp only [hc]); (try simp only [hcl] at hc); try omega))
    refine CL.mk (string_ok sbg (by rw [← hb]; omega)) ?_
    rintro _ g2 ⟨rfl, s2⟩
    repeat' (first
      | refine St.h ?_
      | simp (disch := first | omega | (simp only [lnv]; omega)) only [wlk, ↓get_put', Nat.reduceEqDiff, Nat.reduceLT, ↓reduceIte, Int.reduceToNat, Nat.reducePow, Nat.min_eq_left, Nat.reduceAdd, Nat.reduceMul, Int.reduceAdd, Int.reduceSub, Int.reduceNeg, Int.reduceMul, Int.reduceEq, Int.reduceLT, Int.reduceLE, Nat.reduceSub, Int.reduceNatCast, Nat.reduceLeDiff]
      | (with_reducible (first | apply cd_split | apply gd_split)) <;> (intro hc; (try simp only [hcn] at hc); (try simp only [hc]); (try simp only [hcl] at hc); try omega))
    subst hQ
    exact ⟨by rw [hb], st.past' s2 fun i hi => (sbg.lo i hi).1⟩
  have hi := getD_all ha hjl
  rw [drop_ent hjl] at hb
  generalize he : L.getD j default = e at hi hb
  obtain ⟨k1, k2, k3, k4⟩ := isE_len hi
  have hsl := sharedB_le e.key p
  have hsc := sharedB_comm p e.key
  have hlen : (bodyB [] L).length ≤ 800000 := by omega
  have hb2 : bodyB p (e :: L.drop (j + 1)) = oneB p e ++ bodyB e.key (L.drop (j + 1)) := rfl
  rw [hb2] at hb
  have hol : out.length + (oneB p e).length ≤ 800000 := by
    rw [hb] at hlen; simp only [List.length_append] at hlen; omega
  have hone : (oneB p e).length = (numB (sharedB e.key p)).length + (textB (e.key.drop (sharedB e.key p))).length + (tailB e).length := by unfold oneB; simp only [List.length_append]
  have l1 := textB_len e.key (by omega)
  have l2 := tailB_len hi
  have hbl2 : (bytesE e).length = (textB e.key).length + (tailB e).length := by rw [bytesE_full hi, List.length_append]
  repeat' (first
    | refine St.h ?_
    | simp (disch := first | omega | (simp only [lnv]; omega)) only [wlk, ↓get_put', Nat.reduceEqDiff, Nat.reduceLT, ↓reduceIte, Int.reduceToNat, Nat.reducePow, Nat.min_eq_left, Nat.reduceAdd, Nat.reduceMul, Int.reduceAdd, Int.reduceSub, Int.reduceNeg, Int.reduceMul, Int.reduceEq, Int.reduceLT, Int.reduceLE, Nat.reduceSub, Int.reduceNatCast, Nat.reduceLeDiff, f0, f3, f4, f8, f9, f10, hL.ix, hLg.la, he, Int.toNat_natCast]
    | (with_reducible (first | apply cd_split | apply gd_split)) <;> (intro hc; (try simp only [hcn] at hc); (try simp only [hc]); (try simp only [hcl] at hc); try omega))
  refine AL.own (by simp) hfg fun g1 t1 m1 o1 => ?_
  have hfg1 := t1.fl hfg
  repeat' (first
    | refine St.h ?_
    | simp (disch := first | omega | (simp only [lnv]; omega)) only [wlk, ↓get_put', Nat.reduceEqDiff, Nat.reduceLT, ↓reduceIte, Int.reduceToNat, Nat.reducePow, Nat.min_eq_left, Nat.reduceAdd, Nat.reduceMul, Int.reduceAdd, Int.reduceSub, Int.reduceNeg, Int.reduceMul, Int.reduceEq, Int.reduceLT, Int.reduceLE, Nat.reduceSub, Int.reduceNatCast, Nat.reduceLeDiff, f0, f3, f4, f8, f9, f10]
    | (with_reducible (first | apply cd_split | apply gd_split)) <;> (intro hc; (try simp only [hcn] at hc); (try simp only [hc]); (try simp only [hcl] at hc); try omega))
  refine ST.all o1 rfl rfl (by simp) (by simp) fun g2 o2 t2 => ?_
  have t12 : Stay nowhere g g2 := t1.past' t2 fun q hq => by rw [hq]; exact Nat.le_refl _
  have hfg2 := t12.fl hfg
  have sb2 := sbg.stay t12 fun _ _ h => h
  have hnU : ¬ U g.next := fun hu => absurd (sbg.lo _ hu).2 (Nat.lt_irrefl _)
  repeat' (first
    | refine St.h ?_
    | simp (disch := first | omega | (simp only [lnv]; omega)) only [wlk, ↓get_put', Nat.reduceEqDiff, Nat.reduceLT, ↓reduceIte, Int.reduceToNat, Nat.reducePow, Nat.min_eq_left, Nat.reduceAdd, Nat.reduceMul, Int.reduceAdd, Int.reduceSub, Int.reduceNeg, Int.reduceMul, Int.reduceEq, Int.reduceLT, Int.reduceLE, Nat.reduceSub, Int.reduceNatCast, Nat.reduceLeDiff, f0, f3, f4, f8, f9, f10, o2.row.l1]
    | (with_reducible (first | apply cd_split | apply gd_split)) <;> (intro hc; (try simp only [hcn] at hc); (try simp only [hc]); (try simp only [hcl] at hc); try omega))
  refine CL.pure (bshared_ok (by omega) (by omega)) ?_
  rw [hsc]
  repeat' (first
    | refine St.h ?_
    | simp (disch := first | omega | (simp only [lnv]; omega)) only [wlk, ↓get_put', Nat.reduceEqDiff, Nat.reduceLT, ↓reduceIte, Int.reduceToNat, Nat.reducePow, Nat.min_eq_left, Nat.reduceAdd, Nat.reduceMul, Int.reduceAdd, Int.reduceSub, Int.reduceNeg, Int.reduceMul, Int.reduceEq, Int.reduceLT, Int.reduceLE, Nat.reduceSub, Int.reduceNatCast, Nat.reduceLeDiff, f0, f3, f4, f8, f9, f10]
    | (with_reducible (first | apply cd_split | apply gd_split)) <;> (intro hc; (try simp only [hcn] at hc); (try simp only [hc]); (try simp only [hcl] at hc); try omega))
  refine CL.stay (num_ok (by omega) hfg2) fun g3 t3 => ?_
  have hfg3 := t3.fl hfg2
  have sb3 := sb2.stay t3 fun _ _ h => h
  have o3 := o2.stay t3 fun h => h
  repeat' (first
    | refine St.h ?_
    | simp (disch := first | omega | (simp only [lnv]; omega)) only [wlk, ↓get_put', Nat.reduceEqDiff, Nat.reduceLT, ↓reduceIte, Int.reduceToNat, Nat.reducePow, Nat.min_eq_left, Nat.reduceAdd, Nat.reduceMul, Int.reduceAdd, Int.reduceSub, Int.reduceNeg, Int.reduceMul, Int.reduceEq, Int.reduceLT, Int.reduceLE, Nat.reduceSub, Int.reduceNatCast, Nat.reduceLeDiff, f0, f3, f4, f8, f9, f10, Int.toNat_natCast]
    | (with_reducible (first | apply cd_split | apply gd_split)) <;> (intro hc; (try simp only [hcn] at hc); (try simp only [hc]); (try simp only [hcl] at hc); try omega))
  refine CL.mk (writeString_ok sb3 (by omega) hfg3) ?_
  rintro _ g4 ⟨U4, sb4, t4, hU4⟩
  have hfg4 := t4.fl hfg3
  have o4 := o3.stay t4 hnU
  have hn3 : B.val g.next < B.val g3.next := own_lt' o3
  have hnU4 : ¬ U4 g.next := fun hu => by
    rcases hU4 _ hu with h7 | h7
    · exact hnU h7
    · omega
  repeat' (first
    | refine St.h ?_
    | simp (disch := first | omega | (simp only [lnv]; omega)) only [wlk, ↓get_put', Nat.reduceEqDiff, Nat.reduceLT, ↓reduceIte, Int.reduceToNat, Nat.reducePow, Nat.min_eq_left, Nat.reduceAdd, Nat.reduceMul, Int.reduceAdd, Int.reduceSub, Int.reduceNeg, Int.reduceMul, Int.reduceEq, Int.reduceLT, Int.reduceLE, Nat.reduceSub, Int.reduceNatCast, Nat.reduceLeDiff, f0, f3, f4, f8, f9, f10, o4.row.l1, Int.toNat_natCast]
    | (with_reducible (first | apply cd_split | apply gd_split)) <;> (intro hc; (try simp only [hcn] at hc); (try simp only [hc]); (try simp only [hcl] at hc); try omega))
  refine CL.stay (text_ok (by rw [List.length_drop]; omega) hfg4) fun g5 t5 => ?_
  have hfg5 := t5.fl hfg4
  have sb5 := sb4.stay t5 fun _ _ h => h
  have o5 := o4.stay t5 fun h => h
  have hn5 : B.val g.next < B.val g5.next := own_lt' o5
  repeat' (first
    | refine St.h ?_
    | simp (disch := first | omega | (simp only [lnv]; omega)) only [wlk, ↓get_put', Nat.reduceEqDiff, Nat.reduceLT, ↓reduceIte, Int.reduceToNat, Nat.reducePow, Nat.min_eq_left, Nat.reduceAdd, Nat.reduceMul, Int.reduceAdd, Int.reduceSub, Int.reduceNeg, Int.reduceMul, Int.reduceEq, Int.reduceLT, Int.reduceLE, Nat.reduceSub, Int.reduceNatCast, Nat.reduceLeDiff, f0, f3, f4, f8, f9, f10]
    | (with_reducible (first | apply cd_split | apply gd_split)) <;> (intro hc; (try simp only [hcn] at hc); (try simp only [hc]); (try simp only [hcl] at hc); try omega))
  refine CL.mk (writeString_ok sb5 (by simp only [List.length_append]; omega) hfg5) ?_
  rintro _ g6 ⟨U6, sb6, t6, hU6⟩
  have hfg6 := t6.fl hfg5
  have o6 := o5.stay t6 hnU4
  have hnU6 : ¬ U6 g.next := fun hu => by
    rcases hU6 _ hu with h7 | h7
    · exact hnU4 h7
    · omega
  repeat' (first
    | refine St.h ?_
    | simp (disch := first | omega | (simp only [lnv]; omega)) only [wlk, ↓get_put', Nat.reduceEqDiff, Nat.reduceLT, ↓reduceIte, Int.reduceToNat, Nat.reducePow, Nat.min_eq_left, Nat.reduceAdd, Nat.reduceMul, Int.reduceAdd, Int.reduceSub, Int.reduceNeg, Int.reduceMul, Int.reduceEq, Int.reduceLT, Int.reduceLE, Nat.reduceSub, Int.reduceNatCast, Nat.reduceLeDiff, f0, f3, f4, f8, f9, f10, o6.row.ln]
    | (with_reducible (first | apply cd_split | apply gd_split)) <;> (intro hc; (try simp only [hcn] at hc); (try simp only [hc]); (try simp only [hcl] at hc); try omega))
  refine CL.stayU (bytes_ok (re_fl _)) fun g7 t7 => ?_
  have hfg7 := t7.fl hfg6
  have sb7 := sb6.stay t7 fun _ _ h => h
  have o7 := o6.stay t7 fun h => h
  repeat' (first
    | refine St.h ?_
    | simp (disch := first | omega | (simp only [lnv]; omega)) only [wlk, ↓get_put', Nat.reduceEqDiff, Nat.reduceLT, ↓reduceIte, Int.reduceToNat, Nat.reducePow, Nat.min_eq_left, Nat.reduceAdd, Nat.reduceMul, Int.reduceAdd, Int.reduceSub, Int.reduceNeg, Int.reduceMul, Int.reduceEq, Int.reduceLT, Int.reduceLE, Nat.reduceSub, Int.reduceNatCast, Nat.reduceLeDiff, f0, f3, f4, f8, f9, f10, o7.row.l1]
    | (with_reducible (first | apply cd_split | apply gd_split)) <;> (intro hc; (try simp only [hcn] at hc); (try simp only [hc]); (try simp only [hcl] at hc); try omega))
  refine CL.stay (text_ok (by omega) hfg7) fun g8 t8 => ?_
  have hfg8 := t8.fl hfg7
  have sb8 := sb7.stay t8 fun _ _ h => h
  have o8 := o7.stay t8 fun h => h
  have hn8 : B.val g.next < B.val g8.next := own_lt' o8
  have hdb := drop_bytes hi
  repeat' (first
    | refine St.h ?_
    | simp (disch := first | omega | (simp only [lnv]; omega)) only [wlk, ↓get_put', Nat.reduceEqDiff, Nat.reduceLT, ↓reduceIte, Int.reduceToNat, Nat.reducePow, Nat.min_eq_left, Nat.reduceAdd, Nat.reduceMul, Int.reduceAdd, Int.reduceSub, Int.reduceNeg, Int.reduceMul, Int.reduceEq, Int.reduceLT, Int.reduceLE, Nat.reduceSub, Int.reduceNatCast, Nat.reduceLeDiff, f0, f3, f4, f8, f9, f10, Int.toNat_natCast, hdb]
    | (with_reducible (first | apply cd_split | apply gd_split)) <;> (intro hc; (try simp only [hcn] at hc); (try simp only [hc]); (try simp only [hcl] at hc); try omega))
  refine CL.mk (writeString_ok sb8 (by simp only [List.length_append]; omega) hfg8) ?_
  rintro _ g9 ⟨U9, sb9, t9, hU9⟩
  have o9 := o8.stay t9 hnU6
  have a4 := ((st.trans t12).trans t3).past' t4 fun q hq => (sb3.lo q hq).1
  have a6 := (a4.trans t5).past' t6 fun q hq => (sb5.lo q hq).1
  have a9 := ((a6.trans t7).trans t8).past' t9 fun q hq => (sb8.lo q hq).1
  repeat' (first
    | refine St.h ?_
    | simp (disch := first | omega | (simp only [lnv]; omega)) only [wlk, ↓get_put', Nat.reduceEqDiff, Nat.reduceLT, ↓reduceIte, Int.reduceToNat, Nat.reducePow, Nat.min_eq_left, Nat.reduceAdd, Nat.reduceMul, Int.reduceAdd, Int.reduceSub, Int.reduceNeg, Int.reduceMul, Int.reduceEq, Int.reduceLT, Int.reduceLE, Nat.reduceSub, Int.reduceNatCast, Nat.reduceLeDiff, f0, f3, f4, f8, f9, f10, o9.row.l1]
    | (with_reducible (first | apply cd_split | apply gd_split)) <;> (intro hc; (try simp only [hcn] at hc); (try simp only [hc]); (try simp only [hcl] at hc); try omega))
  refine lp_next hI (L.length - (j + 1)) (by omega) ⟨j + 1, e.key, out ++ oneB p e, U9, rfl, by omega, k1, by rw [hb]; simp, a9, by unfold oneB; simpa using sb9, ?_, ?_, ?_, ?_, ?_, ?_⟩
  all_goals (simp (disch := first | omega | (simp only [lnv]; omega)) only [wlk, ↓get_put', Nat.reduceEqDiff, Nat.reduceLT, ↓reduceIte, Int.reduceToNat, Nat.reducePow, Nat.min_eq_left, Nat.reduceAdd, Nat.reduceMul, Int.reduceAdd, Int.reduceSub, Int.reduceNeg, Int.reduceMul, Int.reduceEq, Int.reduceLT, Int.reduceLE, Nat.reduceSub, Int.reduceNatCast, Nat.reduceLeDiff, f0, f3, f8, f9]; try rfl)
theorem bmake_ok {h : H} {v : V} {L : List Ent} (hL : Es h v L) (hl : L.length ≤ 10000) (hf : B.val h.floor ≤ B.val h.next) : FnOk Try.prog 39 [v] h fun y h' => y = .tu [sv (blkE L).1, .i .i64 (blkE L).2] ∧ Stay nowhere h h' := by
  refine fn_go c39 (by intro hb; cases hb) (by simp) (by simp) fun Q hQ => ?_
  simp only [slotsF, Nat.reduceAdd]
  by_cases h0 : L.length = 0
  · have : L = [] := List.eq_nil_of_length_eq_zero h0
    subst this
    repeat' (first
      | refine St.h ?_
      | simp (disch := first | omega | (simp only [lnv]; omega)) only [wlk, ↓get_put', Nat.reduceEqDiff, Nat.reduceLT, ↓reduceIte, Int.reduceToNat, Nat.reducePow, Nat.min_eq_left, Nat.reduceAdd, Nat.reduceMul, Int.reduceAdd, Int.reduceSub, Int.reduceNeg, Int.reduceMul, Int.reduceEq, Int.reduceLT, Int.reduceLE, Nat.reduceSub, Int.reduceNatCast, Nat.reduceLeDiff, hL.ln]
      | (with_reducible (first | apply cd_split | apply gd_split)) <;> (intro hc; (try simp only [hcn] at hc); (try simp only [hc]); (try simp only [hcl] at hc); try omega))
    subst hQ
    exact ⟨by rw [blkE_nil], Stay.refl _ _⟩
  have hd : ((L.length : Int) = 0) = False := eq_false (by omega)
  repeat' (first
    | refine St.h ?_
    | simp (disch := first | omega | (simp only [lnv]; omega)) only [wlk, ↓get_put', Nat.reduceEqDiff, Nat.reduceLT, ↓reduceIte, Int.reduceToNat, Nat.reducePow, Nat.min_eq_left, Nat.reduceAdd, Nat.reduceMul, Int.reduceAdd, Int.reduceSub, Int.reduceNeg, Int.reduceMul, Int.reduceEq, Int.reduceLT, Int.reduceLE, Nat.reduceSub, Int.reduceNatCast, Nat.reduceLeDiff, hL.ln, hd]
    | (with_reducible (first | apply cd_split | apply gd_split)) <;> (intro hc; (try simp only [hcn] at hc); (try simp only [hc]); (try simp only [hcl] at hc); try omega))
  refine Ok.lp (fun m t g => ∃ j : Nat, m = L.length - j ∧ j ≤ L.length ∧ (∀ i, i < j → isE (L.getD i default) = true) ∧ get 0 t = v ∧ get 9 t = v ∧ get 10 t = .i .i64 (L.length : Int) ∧ get 11 t = .i .i64 (j : Int) ∧ Stay nowhere h g) L.length ?_ ?_
  · simp (disch := first | omega | (simp only [lnv]; omega)) only [wlk, ↓get_put', Nat.reduceEqDiff, Nat.reduceLT, ↓reduceIte, Int.reduceToNat, Nat.reducePow, Nat.min_eq_left, Nat.reduceAdd, Nat.reduceMul, Int.reduceAdd, Int.reduceSub, Int.reduceNeg, Int.reduceMul, Int.reduceEq, Int.reduceLT, Int.reduceLE, Nat.reduceSub, Int.reduceNatCast, Nat.reduceLeDiff]
    exact ⟨0, by omega, by omega, fun i hi => by omega, trivial, trivial, trivial, rfl, Stay.refl _ _⟩
  rintro I hI m t g ⟨j, rfl, hj, he, f0, f9, f10, f11, st⟩
  have hfg := st.fl hf
  have hLg := hL.grow st
  by_cases hjl : j < L.length
  case neg =>
    obtain rfl : j = L.length := by omega
    have hall : L.all isE = true := all_ok he
    have hne : L ≠ [] := by intro e; subst e; simp at h0
    repeat' (first
      | refine St.h ?_
      | simp (disch := first | omega | (simp only [lnv]; omega)) only [wlk, ↓get_put', Nat.reduceEqDiff, Nat.reduceLT, ↓reduceIte, Int.reduceToNat, Nat.reducePow, Nat.min_eq_left, Nat.reduceAdd, Nat.reduceMul, Int.reduceAdd, Int.reduceSub, Int.reduceNeg, Int.reduceMul, Int.reduceEq, Int.reduceLT, Int.reduceLE, Nat.reduceSub, Int.reduceNatCast, Nat.reduceLeDiff, f0, f9, f10, f11]
      | (with_reducible (first | apply cd_split | apply gd_split)) <;> (intro hc; (try simp only [hcn] at hc); (try simp only [hc]); (try simp only [hcl] at hc); try omega))
    refine CL.stay (sorted_ok hLg (by omega) hfg) fun g1 t1 => ?_
    have hfg1 := t1.fl hfg
    have hL1 := hLg.grow t1
    cases hs : sortedE L with
    | false =>
      repeat' (first
        | refine St.h ?_
        | simp (disch := first | omega | (simp only [lnv]; omega)) only [wlk, ↓get_put', Nat.reduceEqDiff, Nat.reduceLT, ↓reduceIte, Int.reduceToNat, Nat.reducePow, Nat.min_eq_left, Nat.reduceAdd, Nat.reduceMul, Int.reduceAdd, Int.reduceSub, Int.reduceNeg, Int.reduceMul, Int.reduceEq, Int.reduceLT, Int.reduceLE, Nat.reduceSub, Int.reduceNatCast, Nat.reduceLeDiff]
        | (with_reducible (first | apply cd_split | apply gd_split)) <;> (intro hc; (try simp only [hcn] at hc); (try simp only [hc]); (try simp only [hcl] at hc); try omega))
      subst hQ
      exact ⟨by rw [blkE_un hall hne hs], st.trans t1⟩
    | true =>
      repeat' (first
        | refine St.h ?_
        | simp (disch := first | omega | (simp only [lnv]; omega)) only [wlk, ↓get_put', Nat.reduceEqDiff, Nat.reduceLT, ↓reduceIte, Int.reduceToNat, Nat.reducePow, Nat.min_eq_left, Nat.reduceAdd, Nat.reduceMul, Int.reduceAdd, Int.reduceSub, Int.reduceNeg, Int.reduceMul, Int.reduceEq, Int.reduceLT, Int.reduceLE, Nat.reduceSub, Int.reduceNatCast, Nat.reduceLeDiff, f0]
        | (with_reducible (first | apply cd_split | apply gd_split)) <;> (intro hc; (try simp only [hcn] at hc); (try simp only [hc]); (try simp only [hcl] at hc); try omega))
      refine CL.stay (lay_ok hL1 hl hall hfg1) fun g2 t2 => ?_
      have hfg2 := t2.fl hfg1
      have hbl := bodyB_len (p := []) hall
      repeat' (first
        | refine St.h ?_
        | simp (disch := first | omega | (simp only [lnv]; omega)) only [wlk, ↓get_put', Nat.reduceEqDiff, Nat.reduceLT, ↓reduceIte, Int.reduceToNat, Nat.reducePow, Nat.min_eq_left, Nat.reduceAdd, Nat.reduceMul, Int.reduceAdd, Int.reduceSub, Int.reduceNeg, Int.reduceMul, Int.reduceEq, Int.reduceLT, Int.reduceLE, Nat.reduceSub, Int.reduceNatCast, Nat.reduceLeDiff]
        | (with_reducible (first | apply cd_split | apply gd_split)) <;> (intro hc; (try simp only [hcn] at hc); (try simp only [hc]); (try simp only [hcl] at hc); try omega))
      refine CL.stay (seal_ok (by omega) hfg2) fun g3 t3 => ?_
      repeat' (first
        | refine St.h ?_
        | simp (disch := first | omega | (simp only [lnv]; omega)) only [wlk, ↓get_put', Nat.reduceEqDiff, Nat.reduceLT, ↓reduceIte, Int.reduceToNat, Nat.reducePow, Nat.min_eq_left, Nat.reduceAdd, Nat.reduceMul, Int.reduceAdd, Int.reduceSub, Int.reduceNeg, Int.reduceMul, Int.reduceEq, Int.reduceLT, Int.reduceLE, Nat.reduceSub, Int.reduceNatCast, Nat.reduceLeDiff]
        | (with_reducible (first | apply cd_split | apply gd_split)) <;> (intro hc; (try simp only [hcn] at hc); (try simp only [hc]); (try simp only [hcl] at hc); try omega))
      subst hQ
      exact ⟨by rw [blkE_ok hall hne hs], ((st.trans t1).trans t2).trans t3⟩
  repeat' (first
    | refine St.h ?_
    | simp (disch := first | omega | (simp only [lnv]; omega)) only [wlk, ↓get_put', Nat.reduceEqDiff, Nat.reduceLT, ↓reduceIte, Int.reduceToNat, Nat.reducePow, Nat.min_eq_left, Nat.reduceAdd, Nat.reduceMul, Int.reduceAdd, Int.reduceSub, Int.reduceNeg, Int.reduceMul, Int.reduceEq, Int.reduceLT, Int.reduceLE, Nat.reduceSub, Int.reduceNatCast, Nat.reduceLeDiff, f0, f9, f10, f11, hLg.ix, hLg.la, Int.toNat_natCast]
    | (with_reducible (first | apply cd_split | apply gd_split)) <;> (intro hc; (try simp only [hcn] at hc); (try simp only [hc]); (try simp only [hcl] at hc); try omega))
  refine AL.own (by simp) hfg fun g1 t1 m1 o1 => ?_
  have hfg1 := t1.fl hfg
  repeat' (first
    | refine St.h ?_
    | simp (disch := first | omega | (simp only [lnv]; omega)) only [wlk, ↓get_put', Nat.reduceEqDiff, Nat.reduceLT, ↓reduceIte, Int.reduceToNat, Nat.reducePow, Nat.min_eq_left, Nat.reduceAdd, Nat.reduceMul, Int.reduceAdd, Int.reduceSub, Int.reduceNeg, Int.reduceMul, Int.reduceEq, Int.reduceLT, Int.reduceLE, Nat.reduceSub, Int.reduceNatCast, Nat.reduceLeDiff, f0, f9, f10, f11]
    | (with_reducible (first | apply cd_split | apply gd_split)) <;> (intro hc; (try simp only [hcn] at hc); (try simp only [hc]); (try simp only [hcl] at hc); try omega))
  refine ST.all o1 rfl rfl (by simp) (by simp) fun g2 o2 t2 => ?_
  have t12 : Stay nowhere g g2 := t1.past' t2 fun q hq => by rw [hq]; exact Nat.le_refl _
  have hfg2 := t12.fl hfg
  repeat' (first
    | refine St.h ?_
    | simp (disch := first | omega | (simp only [lnv]; omega)) only [wlk, ↓get_put', Nat.reduceEqDiff, Nat.reduceLT, ↓reduceIte, Int.reduceToNat, Nat.reducePow, Nat.min_eq_left, Nat.reduceAdd, Nat.reduceMul, Int.reduceAdd, Int.reduceSub, Int.reduceNeg, Int.reduceMul, Int.reduceEq, Int.reduceLT, Int.reduceLE, Nat.reduceSub, Int.reduceNatCast, Nat.reduceLeDiff, f0, f9, f10, f11, o2.row.ln]
    | (with_reducible (first | apply cd_split | apply gd_split)) <;> (intro hc; (try simp only [hcn] at hc); (try simp only [hc]); (try simp only [hcl] at hc); try omega))
  refine CL.stay (is_ok hfg2) fun g3 t3 => ?_
  have s3 := (st.trans t12).trans t3
  cases hi : isE (L.getD j default) with
  | false =>
    repeat' (first
      | refine St.h ?_
      | simp (disch := first | omega | (simp only [lnv]; omega)) only [wlk, ↓get_put', Nat.reduceEqDiff, Nat.reduceLT, ↓reduceIte, Int.reduceToNat, Nat.reducePow, Nat.min_eq_left, Nat.reduceAdd, Nat.reduceMul, Int.reduceAdd, Int.reduceSub, Int.reduceNeg, Int.reduceMul, Int.reduceEq, Int.reduceLT, Int.reduceLE, Nat.reduceSub, Int.reduceNatCast, Nat.reduceLeDiff]
      | (with_reducible (first | apply cd_split | apply gd_split)) <;> (intro hc; (try simp only [hcn] at hc); (try simp only [hc]); (try simp only [hcl] at hc); try omega))
    subst hQ
    exact ⟨by rw [blkE_bad (all_at (by omega) hi)], s3⟩
  | true =>
    repeat' (first
      | refine St.h ?_
      | simp (disch := first | omega | (simp only [lnv]; omega)) only [wlk, ↓get_put', Nat.reduceEqDiff, Nat.reduceLT, ↓reduceIte, Int.reduceToNat, Nat.reducePow, Nat.min_eq_left, Nat.reduceAdd, Nat.reduceMul, Int.reduceAdd, Int.reduceSub, Int.reduceNeg, Int.reduceMul, Int.reduceEq, Int.reduceLT, Int.reduceLE, Nat.reduceSub, Int.reduceNatCast, Nat.reduceLeDiff, f0, f9, f10, f11]
      | (with_reducible (first | apply cd_split | apply gd_split)) <;> (intro hc; (try simp only [hcn] at hc); (try simp only [hc]); (try simp only [hcl] at hc); try omega))
    refine lp_next hI (L.length - (j + 1)) (by omega) ⟨j + 1, rfl, by omega, fun i h2 => ?_, ?_, ?_, ?_, ?_, s3⟩
    · by_cases e : i = j
      · subst e; exact hi
      · exact he i (by omega)
    all_goals (simp (disch := first | omega | (simp only [lnv]; omega)) only [wlk, ↓get_put', Nat.reduceEqDiff, Nat.reduceLT, ↓reduceIte, Int.reduceToNat, Nat.reducePow, Nat.min_eq_left, Nat.reduceAdd, Nat.reduceMul, Int.reduceAdd, Int.reduceSub, Int.reduceNeg, Int.reduceMul, Int.reduceEq, Int.reduceLT, Int.reduceLE, Nat.reduceSub, Int.reduceNatCast, Nat.reduceLeDiff, f0, f9, f10]; try rfl)
/-- what take makes of bytes behind a key: one entry that fits, or an error; and the entry that was laid -/
structure TakeR (p s : List UInt8) (r : Ent × Int × Int) : Prop where
  fit : r.2.2 = 0 → ∃ z : Nat, r.2.1 = (z : Int) ∧ 1 ≤ z ∧ z ≤ s.length ∧ isE r.1 = true
  laid : ∀ (e : Ent) (more : List UInt8), isE e = true → s = oneB p e ++ more → r = (e, ((oneB p e).length : Int), 0)
theorem TakeR.bad {p s : List UInt8} {r : Ent × Int × Int} (h : r.2.2 ≠ 0) (hs : ∀ (e : Ent) (more : List UInt8), isE e = true → s = oneB p e ++ more → False) : TakeR p s r :=
  ⟨fun e => absurd e h, fun e more hi hs' => (hs e more hi hs').elim⟩
section
variable {p : List UInt8} {e : Ent} (more : List UInt8)
theorem one_takeN (hi : isE e = true) : takeN (oneB p e ++ more) = ((sharedB e.key p : Int), ((numB (sharedB e.key p)).length : Int), 0) := by
  obtain ⟨k1, _⟩ := isE_len hi
  have hs := sharedB_le e.key p
  unfold oneB
  rw [List.append_assoc, List.append_assoc]
  exact takeN_numB (by omega) _
theorem one_takeT (hi : isE e = true) : takeT ((oneB p e ++ more).drop (numB (sharedB e.key p)).length) = (e.key.drop (sharedB e.key p), ((textB (e.key.drop (sharedB e.key p))).length : Int), 0) := by
  obtain ⟨k1, _⟩ := isE_len hi
  unfold oneB
  rw [List.append_assoc, List.append_assoc, List.drop_left]
  exact takeT_textB (by rw [List.length_drop]; omega)
theorem one_tail (hi : isE e = true) : (oneB p e ++ more).drop ((numB (sharedB e.key p)).length + (textB (e.key.drop (sharedB e.key p))).length) = tailB e ++ more := by
  unfold oneB
  rw [← List.length_append, List.append_assoc, List.drop_left]
theorem one_key : p.take (sharedB e.key p) ++ e.key.drop (sharedB e.key p) = e.key := by
  rw [← sharedB_take, List.take_append_drop]
theorem one_len (hi : isE e = true) : (oneB p e).length = (numB (sharedB e.key p)).length + (textB (e.key.drop (sharedB e.key p))).length + (tailB e).length := by
  unfold oneB; rw [List.length_append, List.length_append]
theorem one_read (hi : isE e = true) : readE (textB e.key ++ (tailB e ++ more).take 43) = (e, ((textB e.key).length : Int) + ((tailB e).length : Int), 0) := by
  have h := tailB_len hi
  have e1 : (tailB e ++ more).take 43 = tailB e ++ more.take (43 - (tailB e).length) := by
    rw [List.take_append, List.take_of_length_le h]
  rw [e1, ← List.append_assoc, ← bytesE_full hi, read_back hi, bytesE_full hi, List.length_append]
  push_cast; rfl
end
theorem btake_ok {h : H} {p s : List UInt8} (hs : s.length ≤ 10000) (hp : p.length ≤ 13) (hf : B.val h.floor ≤ B.val h.next) : FnOk Try.prog 97 [sv s, sv p] h fun y h' => (∃ r, y = triE r ∧ TakeR p s r) ∧ Stay nowhere h h' := by
  refine fn_go c97 (by intro hb; cases hb) (by simp) (by simp) fun Q hQ => ?_
  simp only [slotsF, Nat.reduceAdd]
  repeat' (first
    | refine St.h ?_
    | simp (disch := first | omega | (simp only [lnv]; omega)) only [wlk, ↓get_put', Nat.reduceEqDiff, Nat.reduceLT, ↓reduceIte, Int.reduceToNat, Nat.reducePow, Nat.min_eq_left, Nat.reduceAdd, Nat.reduceMul, Int.reduceAdd, Int.reduceSub, Int.reduceNeg, Int.reduceMul, Int.reduceEq, Int.reduceLT, Int.reduceLE, Nat.reduceSub, Int.reduceNatCast, Nat.reduceLeDiff]
    | (with_reducible (first | apply cd_split | apply gd_split)) <;> (intro hc; (try simp only [hcn] at hc); (try simp only [hc]); (try simp only [hcl] at hc); try omega))
  refine AL.own (by simp) hf fun h1 s1 n1 o1 => ?_
  have hf1 := s1.fl hf
  repeat' (first
    | refine St.h ?_
    | simp (disch := first | omega | (simp only [lnv]; omega)) only [wlk, ↓get_put', Nat.reduceEqDiff, Nat.reduceLT, ↓reduceIte, Int.reduceToNat, Nat.reducePow, Nat.min_eq_left, Nat.reduceAdd, Nat.reduceMul, Int.reduceAdd, Int.reduceSub, Int.reduceNeg, Int.reduceMul, Int.reduceEq, Int.reduceLT, Int.reduceLE, Nat.reduceSub, Int.reduceNatCast, Nat.reduceLeDiff]
    | (with_reducible (first | apply cd_split | apply gd_split)) <;> (intro hc; (try simp only [hcn] at hc); (try simp only [hc]); (try simp only [hcl] at hc); try omega))
  refine CL.pure (takeNum_ok (by omega)) ?_
  have hz : ∀ f : Int, triE (entZ, 0, f) = .tu [.a [sv [], .i .i64 0, .b false, sv []], .i .i64 0, .i .i64 f] := fun f => rfl
  rcases takeN_range s with hN' | ⟨k, i, hN, i1, i2, i3, i4⟩
  · obtain ⟨f, hN, hfn⟩ : ∃ f, takeN s = (0, 0, f) ∧ f ≠ 0 := by
      rcases hN' with h | h
      · exact ⟨_, h, by omega⟩
      · exact ⟨_, h, by omega⟩
    rw [hN]; unfold tri
    have hz' : (f = 0) = False := eq_false hfn
    repeat' (first
      | refine St.h ?_
      | simp (disch := first | omega | (simp only [lnv]; omega)) only [wlk, ↓get_put', Nat.reduceEqDiff, Nat.reduceLT, ↓reduceIte, Int.reduceToNat, Nat.reducePow, Nat.min_eq_left, Nat.reduceAdd, Nat.reduceMul, Int.reduceAdd, Int.reduceSub, Int.reduceNeg, Int.reduceMul, Int.reduceEq, Int.reduceLT, Int.reduceLE, Nat.reduceSub, Int.reduceNatCast, Nat.reduceLeDiff, hz']
      | (with_reducible (first | apply cd_split | apply gd_split)) <;> (intro hc; (try simp only [hcn] at hc); (try simp only [hc]); (try simp only [hcl] at hc); try omega))
    refine ST.all o1 rfl rfl (by simp) (by simp) fun g og sg => ?_
    repeat' (first
      | refine St.h ?_
      | simp (disch := first | omega | (simp only [lnv]; omega)) only [wlk, ↓get_put', Nat.reduceEqDiff, Nat.reduceLT, ↓reduceIte, Int.reduceToNat, Nat.reducePow, Nat.min_eq_left, Nat.reduceAdd, Nat.reduceMul, Int.reduceAdd, Int.reduceSub, Int.reduceNeg, Int.reduceMul, Int.reduceEq, Int.reduceLT, Int.reduceLE, Nat.reduceSub, Int.reduceNatCast, Nat.reduceLeDiff, og.ra4]
      | (with_reducible (first | apply cd_split | apply gd_split)) <;> (intro hc; (try simp only [hcn] at hc); (try simp only [hc]); (try simp only [hcl] at hc); try omega))
    subst hQ
    refine ⟨⟨(entZ, 0, f), rfl, TakeR.bad hfn fun e more hi hse => ?_⟩, s1.past' sg fun q hq => by rw [hq]; exact Nat.le_refl _⟩
    rw [hse, one_takeN more hi] at hN
    exact hfn (Prod.mk.inj (Prod.mk.inj hN).2).2.symm
  rw [hN]; unfold tri
  by_cases hk : k ≤ p.length
  case neg =>
    repeat' (first
      | refine St.h ?_
      | simp (disch := first | omega | (simp only [lnv]; omega)) only [wlk, ↓get_put', Nat.reduceEqDiff, Nat.reduceLT, ↓reduceIte, Int.reduceToNat, Nat.reducePow, Nat.min_eq_left, Nat.reduceAdd, Nat.reduceMul, Int.reduceAdd, Int.reduceSub, Int.reduceNeg, Int.reduceMul, Int.reduceEq, Int.reduceLT, Int.reduceLE, Nat.reduceSub, Int.reduceNatCast, Nat.reduceLeDiff]
      | (with_reducible (first | apply cd_split | apply gd_split)) <;> (intro hc; (try simp only [hcn] at hc); (try simp only [hc]); (try simp only [hcl] at hc); try omega))
    refine ST.all o1 rfl rfl (by simp) (by simp) fun g og sg => ?_
    repeat' (first
      | refine St.h ?_
      | simp (disch := first | omega | (simp only [lnv]; omega)) only [wlk, ↓get_put', Nat.reduceEqDiff, Nat.reduceLT, ↓reduceIte, Int.reduceToNat, Nat.reducePow, Nat.min_eq_left, Nat.reduceAdd, Nat.reduceMul, Int.reduceAdd, Int.reduceSub, Int.reduceNeg, Int.reduceMul, Int.reduceEq, Int.reduceLT, Int.reduceLE, Nat.reduceSub, Int.reduceNatCast, Nat.reduceLeDiff, og.ra4]
      | (with_reducible (first | apply cd_split | apply gd_split)) <;> (intro hc; (try simp only [hcn] at hc); (try simp only [hc]); (try simp only [hcl] at hc); try omega))
    subst hQ
    refine ⟨⟨(entZ, 0, 10), rfl, TakeR.bad (by simp) fun e more hi hse => ?_⟩, s1.past' sg fun q hq => by rw [hq]; exact Nat.le_refl _⟩
    rw [hse, one_takeN more hi] at hN
    have := (Prod.mk.inj hN).1
    have := sharedB_le e.key p
    omega
  have hdl : (s.drop i).length = s.length - i := List.length_drop
  repeat' (first
    | refine St.h ?_
    | simp (disch := first | omega | (simp only [lnv]; omega)) only [wlk, ↓get_put', Nat.reduceEqDiff, Nat.reduceLT, ↓reduceIte, Int.reduceToNat, Nat.reducePow, Nat.min_eq_left, Nat.reduceAdd, Nat.reduceMul, Int.reduceAdd, Int.reduceSub, Int.reduceNeg, Int.reduceMul, Int.reduceEq, Int.reduceLT, Int.reduceLE, Nat.reduceSub, Int.reduceNatCast, Nat.reduceLeDiff, Int.toNat_natCast]
    | (with_reducible (first | apply cd_split | apply gd_split)) <;> (intro hc; (try simp only [hcn] at hc); (try simp only [hc]); (try simp only [hcl] at hc); try omega))
  refine CL.pure (takeText_ok (by omega)) ?_
  rcases takeT_range (s.drop i) with hT' | ⟨tx, j, hT, j1, j2, j3⟩
  · obtain ⟨f, hT, hfn⟩ : ∃ f, takeT (s.drop i) = ([], 0, f) ∧ f ≠ 0 := by
      rcases hT' with h | h
      · exact ⟨_, h, by omega⟩
      · exact ⟨_, h, by omega⟩
    rw [hT]; unfold triT
    have hz' : (f = 0) = False := eq_false hfn
    repeat' (first
      | refine St.h ?_
      | simp (disch := first | omega | (simp only [lnv]; omega)) only [wlk, ↓get_put', Nat.reduceEqDiff, Nat.reduceLT, ↓reduceIte, Int.reduceToNat, Nat.reducePow, Nat.min_eq_left, Nat.reduceAdd, Nat.reduceMul, Int.reduceAdd, Int.reduceSub, Int.reduceNeg, Int.reduceMul, Int.reduceEq, Int.reduceLT, Int.reduceLE, Nat.reduceSub, Int.reduceNatCast, Nat.reduceLeDiff, hz']
      | (with_reducible (first | apply cd_split | apply gd_split)) <;> (intro hc; (try simp only [hcn] at hc); (try simp only [hc]); (try simp only [hcl] at hc); try omega))
    refine ST.all o1 rfl rfl (by simp) (by simp) fun g og sg => ?_
    repeat' (first
      | refine St.h ?_
      | simp (disch := first | omega | (simp only [lnv]; omega)) only [wlk, ↓get_put', Nat.reduceEqDiff, Nat.reduceLT, ↓reduceIte, Int.reduceToNat, Nat.reducePow, Nat.min_eq_left, Nat.reduceAdd, Nat.reduceMul, Int.reduceAdd, Int.reduceSub, Int.reduceNeg, Int.reduceMul, Int.reduceEq, Int.reduceLT, Int.reduceLE, Nat.reduceSub, Int.reduceNatCast, Nat.reduceLeDiff, og.ra4]
      | (with_reducible (first | apply cd_split | apply gd_split)) <;> (intro hc; (try simp only [hcn] at hc); (try simp only [hc]); (try simp only [hcl] at hc); try omega))
    subst hQ
    refine ⟨⟨(entZ, 0, f), rfl, TakeR.bad hfn fun e more hi hse => ?_⟩, s1.past' sg fun q hq => by rw [hq]; exact Nat.le_refl _⟩
    have hN2 := hN
    rw [hse, one_takeN more hi] at hN2
    have hiN := Int.ofNat.inj (Prod.mk.inj (Prod.mk.inj hN2).2).1
    rw [hse, ← hiN, one_takeT more hi] at hT
    exact hfn (Prod.mk.inj (Prod.mk.inj hT).2).2.symm
  rw [hT]; unfold triT
  have hptk : (p.take k).length = k := by rw [List.length_take]; omega
  have hij : ((i : Int) + (j : Int)) = ((i + j : Nat) : Int) := by omega
  have hmn : min (((i + j : Nat) : Int) + 43) (s.length : Int) = ((min (i + j + 43) s.length : Nat) : Int) := by omega
  repeat' (first
    | refine St.h ?_
    | simp (disch := first | omega | (simp only [lnv]; omega)) only [wlk, ↓get_put', Nat.reduceEqDiff, Nat.reduceLT, ↓reduceIte, Int.reduceToNat, Nat.reducePow, Nat.min_eq_left, Nat.reduceAdd, Nat.reduceMul, Int.reduceAdd, Int.reduceSub, Int.reduceNeg, Int.reduceMul, Int.reduceEq, Int.reduceLT, Int.reduceLE, Nat.reduceSub, Int.reduceNatCast, Nat.reduceLeDiff, Int.toNat_natCast]
    | (with_reducible (first | apply cd_split | apply gd_split)) <;> (intro hc; (try simp only [hcn] at hc); (try simp only [hc]); (try simp only [hcl] at hc); try omega))
  refine CL.stay (text_ok (by rw [List.length_append]; omega) hf1) fun h2 s2 => ?_
  have hf2 := s2.fl hf1
  have o2 := o1.stay s2 fun h => h
  have htl : (s.take (min (i + j + 43) s.length)).drop (i + j) = (s.drop (i + j)).take 43 := by
    rw [List.drop_take]
    have hdl2 : (s.drop (i + j)).length = s.length - (i + j) := List.length_drop
    by_cases hc : i + j + 43 ≤ s.length
    · rw [Nat.min_eq_left hc, Nat.add_sub_cancel_left]
    · rw [Nat.min_eq_right (by omega), List.take_of_length_le (by omega), List.take_of_length_le (by omega)]
  have hkl : (p.take k ++ tx).length ≤ 20000 := by rw [List.length_append]; omega
  have hxl := textB_len (p.take k ++ tx) (by omega)
  have hul : ((s.drop (i + j)).take 43).length ≤ 43 := by rw [List.length_take]; omega
  repeat' (first
    | refine St.h ?_
    | simp (disch := first | omega | (simp only [lnv]; omega)) only [wlk, ↓get_put', Nat.reduceEqDiff, Nat.reduceLT, ↓reduceIte, Int.reduceToNat, Nat.reducePow, Nat.min_eq_left, Nat.reduceAdd, Nat.reduceMul, Int.reduceAdd, Int.reduceSub, Int.reduceNeg, Int.reduceMul, Int.reduceEq, Int.reduceLT, Int.reduceLE, Nat.reduceSub, Int.reduceNatCast, Nat.reduceLeDiff, Int.toNat_natCast, hij, hmn, htl]
    | (with_reducible (first | apply cd_split | apply gd_split)) <;> (intro hc; (try simp only [hcn] at hc); (try simp only [hc]); (try simp only [hcl] at hc); try omega))
  refine CL.stay (read_ok (by rw [List.length_append]; omega) hf2) fun h3 s3 => ?_
  have hf3 := s3.fl hf2
  have o3 := o2.stay s3 fun h => h
  have hrd : TakeR p s (if (readE (textB (p.take k ++ tx) ++ (s.drop (i + j)).take 43)).2.2 ≠ 0 then (entZ, 0, (readE (textB (p.take k ++ tx) ++ (s.drop (i + j)).take 43)).2.2) else
      ((readE (textB (p.take k ++ tx) ++ (s.drop (i + j)).take 43)).1, ((i + j : Nat) : Int) + (readE (textB (p.take k ++ tx) ++ (s.drop (i + j)).take 43)).2.1 - ((textB (p.take k ++ tx)).length : Int), 0)) := by
    have hkt := takeT_textB (l := p.take k ++ tx) (more := (s.drop (i + j)).take 43) (by omega)
    have href := readE_ref hkt
    rw [List.drop_left] at href
    refine ⟨fun h0 => ?_, fun e more hi hse => ?_⟩
    · by_cases hb : (chkd (tailU (p.take k ++ tx) ((s.drop (i + j)).take 43))).2.2 = 0
      · obtain ⟨z, hz, z1, z2⟩ := chkd_range _ _ hb
        have hrr : readE (textB (p.take k ++ tx) ++ (s.drop (i + j)).take 43) = ((chkd (tailU (p.take k ++ tx) ((s.drop (i + j)).take 43))).1, ((textB (p.take k ++ tx)).length : Int) + (z : Int), 0) := by
          rw [href, hb, hz]; rfl
        have hdl2 : ((s.drop (i + j)).take 43).length ≤ s.length - (i + j) := by rw [List.length_take, List.length_drop]; omega
        rw [hrr]
        refine ⟨i + j + z, ?_, by omega, by omega, ?_⟩
        · show ((i + j : Nat) : Int) + (((textB (p.take k ++ tx)).length : Int) + (z : Int)) - _ = _
          omega
        · show isE (chkd (tailU (p.take k ++ tx) ((s.drop (i + j)).take 43))).1 = true
          exact chkd_isE (z := (chkd (tailU (p.take k ++ tx) ((s.drop (i + j)).take 43))).2.1) (by rw [← hb])
      · exfalso
        have h1 : (readE (textB (p.take k ++ tx) ++ (s.drop (i + j)).take 43)).2.2 ≠ 0 := by rw [href, if_pos hb]; exact hb
        rw [if_pos h1] at h0
        exact h1 h0
    · have hN2 := hN
      rw [hse, one_takeN more hi] at hN2
      have hk2 : sharedB e.key p = k := Int.ofNat.inj (Prod.mk.inj hN2).1
      have hi2 : (numB (sharedB e.key p)).length = i := Int.ofNat.inj (Prod.mk.inj (Prod.mk.inj hN2).2).1
      have hT2 := hT
      rw [hse, ← hi2, one_takeT more hi] at hT2
      have ht2 : e.key.drop (sharedB e.key p) = tx := (Prod.mk.inj hT2).1
      have hj2 : (textB (e.key.drop (sharedB e.key p))).length = j := Int.ofNat.inj (Prod.mk.inj (Prod.mk.inj hT2).2).1
      have hs2 : s.drop (i + j) = tailB e ++ more := by rw [hse, ← hi2, ← hj2]; exact one_tail more hi
      have hk3 : p.take k ++ tx = e.key := by rw [← hk2, ← ht2]; exact one_key
      rw [hs2, hk3, one_read more hi, one_len hi, hi2, hj2]
      rw [if_neg (by simp)]
      simp only [Prod.mk.injEq, true_and, and_true]
      push_cast; omega
  generalize hr : readE (textB (p.take k ++ tx) ++ (s.drop (i + j)).take 43) = r at hrd ⊢
  obtain ⟨x, z, f⟩ := r
  have hxx : ([sv x.key, .i .i64 x.seq, .b x.del, sv x.val] : List V) = entC x := rfl
  unfold triE
  rw [← hxx]
  repeat' (first
    | refine St.h ?_
    | simp (disch := first | omega | (simp only [lnv]; omega)) only [wlk, ↓get_put', Nat.reduceEqDiff, Nat.reduceLT, ↓reduceIte, Int.reduceToNat, Nat.reducePow, Nat.min_eq_left, Nat.reduceAdd, Nat.reduceMul, Int.reduceAdd, Int.reduceSub, Int.reduceNeg, Int.reduceMul, Int.reduceEq, Int.reduceLT, Int.reduceLE, Nat.reduceSub, Int.reduceNatCast, Nat.reduceLeDiff]
    | (with_reducible (first | apply cd_split | apply gd_split)) <;> (intro hc; (try simp only [hcn] at hc); (try simp only [hc]); (try simp only [hcl] at hc); try omega))
  refine AL.own (by simp) hf3 fun h4 s4 n4 o4 => ?_
  have hf4 := s4.fl hf3
  have o34 := o3.stay s4 fun h => h
  repeat' (first
    | refine St.h ?_
    | simp (disch := first | omega | (simp only [lnv]; omega)) only [wlk, ↓get_put', Nat.reduceEqDiff, Nat.reduceLT, ↓reduceIte, Int.reduceToNat, Nat.reducePow, Nat.min_eq_left, Nat.reduceAdd, Nat.reduceMul, Int.reduceAdd, Int.reduceSub, Int.reduceNeg, Int.reduceMul, Int.reduceEq, Int.reduceLT, Int.reduceLE, Nat.reduceSub, Int.reduceNatCast, Nat.reduceLeDiff]
    | (with_reducible (first | apply cd_split | apply gd_split)) <;> (intro hc; (try simp only [hcn] at hc); (try simp only [hc]); (try simp only [hcl] at hc); try omega))
  refine ST.all o4 rfl rfl (by simp) (by simp) fun h5 o5 s5 => ?_
  have hlt : B.val h.next < B.val h3.next := own_lt' o3
  have o35 := o34.stay s5 (b_ne hlt)
  have s35 : Stay nowhere h3 h5 := s4.past' s5 fun q hq => by rw [hq]; exact Nat.le_refl _
  have s15 := ((s1.trans s2).trans s3).trans s35
  have hf5 := s35.fl hf3
  by_cases fz : f = 0
  case neg =>
    have hz' : (f = 0) = False := eq_false fz
    repeat' (first
      | refine St.h ?_
      | simp (disch := first | omega | (simp only [lnv]; omega)) only [wlk, ↓get_put', Nat.reduceEqDiff, Nat.reduceLT, ↓reduceIte, Int.reduceToNat, Nat.reducePow, Nat.min_eq_left, Nat.reduceAdd, Nat.reduceMul, Int.reduceAdd, Int.reduceSub, Int.reduceNeg, Int.reduceMul, Int.reduceEq, Int.reduceLT, Int.reduceLE, Nat.reduceSub, Int.reduceNatCast, Nat.reduceLeDiff, hz']
      | (with_reducible (first | apply cd_split | apply gd_split)) <;> (intro hc; (try simp only [hcn] at hc); (try simp only [hc]); (try simp only [hcl] at hc); try omega))
    refine ST.all o35 rfl rfl (by simp) (by simp) fun g og sg => ?_
    repeat' (first
      | refine St.h ?_
      | simp (disch := first | omega | (simp only [lnv]; omega)) only [wlk, ↓get_put', Nat.reduceEqDiff, Nat.reduceLT, ↓reduceIte, Int.reduceToNat, Nat.reducePow, Nat.min_eq_left, Nat.reduceAdd, Nat.reduceMul, Int.reduceAdd, Int.reduceSub, Int.reduceNeg, Int.reduceMul, Int.reduceEq, Int.reduceLT, Int.reduceLE, Nat.reduceSub, Int.reduceNatCast, Nat.reduceLeDiff, og.ra4]
      | (with_reducible (first | apply cd_split | apply gd_split)) <;> (intro hc; (try simp only [hcn] at hc); (try simp only [hc]); (try simp only [hcl] at hc); try omega))
    subst hQ
    rw [if_pos fz] at hrd
    exact ⟨⟨_, rfl, hrd⟩, s15.past' sg fun q hq => by rw [hq]; exact Nat.le_refl _⟩
  subst fz
  rw [if_neg (by simp)] at hrd
  obtain ⟨zz, hz1, hz2, hz3, hz4⟩ := hrd.fit rfl
  simp only at hz1
  repeat' (first
    | refine St.h ?_
    | simp (disch := first | omega | (simp only [lnv]; omega)) only [wlk, ↓get_put', Nat.reduceEqDiff, Nat.reduceLT, ↓reduceIte, Int.reduceToNat, Nat.reducePow, Nat.min_eq_left, Nat.reduceAdd, Nat.reduceMul, Int.reduceAdd, Int.reduceSub, Int.reduceNeg, Int.reduceMul, Int.reduceEq, Int.reduceLT, Int.reduceLE, Nat.reduceSub, Int.reduceNatCast, Nat.reduceLeDiff, o5.row.ln, Int.toNat_natCast, hij, hz1]
    | (with_reducible (first | apply cd_split | apply gd_split)) <;> (intro hc; (try simp only [hcn] at hc); (try simp only [hc]); (try simp only [hcl] at hc); try omega))
  refine ST.all o35 rfl rfl (by simp) (by simp) fun g og sg => ?_
  repeat' (first
    | refine St.h ?_
    | simp (disch := first | omega | (simp only [lnv]; omega)) only [wlk, ↓get_put', Nat.reduceEqDiff, Nat.reduceLT, ↓reduceIte, Int.reduceToNat, Nat.reducePow, Nat.min_eq_left, Nat.reduceAdd, Nat.reduceMul, Int.reduceAdd, Int.reduceSub, Int.reduceNeg, Int.reduceMul, Int.reduceEq, Int.reduceLT, Int.reduceLE, Nat.reduceSub, Int.reduceNatCast, Nat.reduceLeDiff, og.ra4]
    | (with_reducible (first | apply cd_split | apply gd_split)) <;> (intro hc; (try simp only [hcn] at hc); (try simp only [hc]); (try simp only [hcl] at hc); try omega))
  subst hQ
  exact ⟨⟨_, by show _ = triE (x, ((i + j : Nat) : Int) + z - ((textB (p.take k ++ tx)).length : Int), 0); rw [hz1]; rfl, hrd⟩, s15.past' sg fun q hq => by rw [hq]; exact Nat.le_refl _⟩
theorem takeAll_ok {h : H} {s : List UInt8} (hs : s.length ≤ 10000) (hf : B.val h.floor ≤ B.val h.next) : FnOk Try.prog 73 [sv s] h fun y h' => ∃ L : List Ent, Es h' y L ∧ L.length ≤ s.length ∧ L.all isE = true ∧ (∀ M : List Ent, M.all isE = true → s = bodyB [] M → L = M) ∧ Stay nowhere h h' := by
  refine fn_go c73 (by intro hb; cases hb) (by simp) (by simp) fun Q hQ => ?_
  simp only [slotsF, Nat.reduceAdd]
  repeat' (first
    | refine St.h ?_
    | simp (disch := first | omega | (simp only [lnv]; omega)) only [wlk, ↓get_put', Nat.reduceEqDiff, Nat.reduceLT, ↓reduceIte, Int.reduceToNat, Nat.reducePow, Nat.min_eq_left, Nat.reduceAdd, Nat.reduceMul, Int.reduceAdd, Int.reduceSub, Int.reduceNeg, Int.reduceMul, Int.reduceEq, Int.reduceLT, Int.reduceLE, Nat.reduceSub, Int.reduceNatCast, Nat.reduceLeDiff]
    | (with_reducible (first | apply cd_split | apply gd_split)) <;> (intro hc; (try simp only [hcn] at hc); (try simp only [hc]); (try simp only [hcl] at hc); try omega))
  refine Ok.lp (fun m t g => ∃ (at0 : Nat) (p : List UInt8) (out : List Ent) (u : V), m = s.length - at0 ∧ at0 ≤ s.length ∧ out.length ≤ at0 ∧ p.length ≤ 13 ∧ out.all isE = true ∧ (∀ M : List Ent, M.all isE = true → s = bodyB [] M → ∃ M2, M = out ++ M2 ∧ M2.all isE = true ∧ s.drop at0 = bodyB p M2) ∧ get 0 t = sv s ∧ get 3 t = u ∧ get 4 t = sv p ∧ get 5 t = .i .i64 (at0 : Int) ∧ Stay nowhere h g ∧ Buf g 70 4 u (out.flatMap entC) ∧ (∀ i, isOf u i → B.val h.next ≤ B.val i)) s.length ?_ ?_
  · simp (disch := first | omega | (simp only [lnv]; omega)) only [wlk, ↓get_put', Nat.reduceEqDiff, Nat.reduceLT, ↓reduceIte, Int.reduceToNat, Nat.reducePow, Nat.min_eq_left, Nat.reduceAdd, Nat.reduceMul, Int.reduceAdd, Int.reduceSub, Int.reduceNeg, Int.reduceMul, Int.reduceEq, Int.reduceLT, Int.reduceLE, Nat.reduceSub, Int.reduceNatCast, Nat.reduceLeDiff]
    refine ⟨0, [], [], .l0, by omega, by omega, by simp, by simp, rfl, fun M hM hs => ⟨M, rfl, hM, by rw [hs]; rfl⟩, ?_⟩
    refine ⟨?_, ?_, ?_, ?_, Stay.refl _ _, Buf.nil _ _ _, ?_⟩
    rotate_right
    · rintro i ⟨_, _, _, _, _, e⟩; cases e
    all_goals first | trivial | rfl
  rintro I hI m t g ⟨at0, p, out, u, rfl, ha, hol, hp, hall, hM, f0, f3, f4, f5, st, bf, own⟩
  have hfg := st.fl hf
  have hes : Es g u out := Ss.buf bf rfl entC_len (by omega)
  have fin : ∀ g', Stay nowhere h g' → Es g' u out → (∀ (e : Ent) (more : List UInt8), isE e = true → s.drop at0 = oneB p e ++ more → False) → ∃ L : List Ent, Es g' u L ∧ L.length ≤ s.length ∧ L.all isE = true ∧ (∀ M : List Ent, M.all isE = true → s = bodyB [] M → L = M) ∧ Stay nowhere h g' := fun g' s' es hno => by
    refine ⟨out, es, by omega, hall, fun M hMa hsM => ?_, s'⟩
    obtain ⟨M2, e1, e2, e3⟩ := hM M hMa hsM
    cases M2 with
    | nil => rw [e1]; simp
    | cons e M2 =>
      rw [List.all_cons, Bool.and_eq_true] at e2
      exact (hno e _ e2.1 e3).elim
  by_cases hat : at0 < s.length
  case neg =>
    obtain rfl : at0 = s.length := by omega
    repeat' (first
      | refine St.h ?_
      | simp (disch := first | omega | (simp only [lnv]; omega)) only [wlk, ↓get_put', Nat.reduceEqDiff, Nat.reduceLT, ↓reduceIte, Int.reduceToNat, Nat.reducePow, Nat.min_eq_left, Nat.reduceAdd, Nat.reduceMul, Int.reduceAdd, Int.reduceSub, Int.reduceNeg, Int.reduceMul, Int.reduceEq, Int.reduceLT, Int.reduceLE, Nat.reduceSub, Int.reduceNatCast, Nat.reduceLeDiff, f0, f3, f4, f5]
      | (with_reducible (first | apply cd_split | apply gd_split)) <;> (intro hc; (try simp only [hcn] at hc); (try simp only [hc]); (try simp only [hcl] at hc); try omega))
    subst hQ
    exact fin g st hes fun e more _ h3 => by
      rw [List.drop_length] at h3
      have := one_ne p e
      cases ho : oneB p e with
      | nil => exact this ho
      | cons a b => rw [ho] at h3; cases h3
  have hdl : (s.drop at0).length = s.length - at0 := List.length_drop
  repeat' (first
    | refine St.h ?_
    | simp (disch := first | omega | (simp only [lnv]; omega)) only [wlk, ↓get_put', Nat.reduceEqDiff, Nat.reduceLT, ↓reduceIte, Int.reduceToNat, Nat.reducePow, Nat.min_eq_left, Nat.reduceAdd, Nat.reduceMul, Int.reduceAdd, Int.reduceSub, Int.reduceNeg, Int.reduceMul, Int.reduceEq, Int.reduceLT, Int.reduceLE, Nat.reduceSub, Int.reduceNatCast, Nat.reduceLeDiff, f0, f3, f4, f5, Int.toNat_natCast]
    | (with_reducible (first | apply cd_split | apply gd_split)) <;> (intro hc; (try simp only [hcn] at hc); (try simp only [hc]); (try simp only [hcl] at hc); try omega))
  refine CL.mk (btake_ok (by omega) hp hfg) ?_
  rintro _ g1 ⟨⟨r, rfl, hr⟩, t1⟩
  have hfg1 := t1.fl hfg
  have hes1 := hes.grow t1
  have bf1 := bf.grow t1
  obtain ⟨x, z, f⟩ := r
  have hxx : ([sv x.key, .i .i64 x.seq, .b x.del, sv x.val] : List V) = entC x := rfl
  unfold triE
  rw [← hxx]
  repeat' (first
    | refine St.h ?_
    | simp (disch := first | omega | (simp only [lnv]; omega)) only [wlk, ↓get_put', Nat.reduceEqDiff, Nat.reduceLT, ↓reduceIte, Int.reduceToNat, Nat.reducePow, Nat.min_eq_left, Nat.reduceAdd, Nat.reduceMul, Int.reduceAdd, Int.reduceSub, Int.reduceNeg, Int.reduceMul, Int.reduceEq, Int.reduceLT, Int.reduceLE, Nat.reduceSub, Int.reduceNatCast, Nat.reduceLeDiff, f0, f3, f4, f5]
    | (with_reducible (first | apply cd_split | apply gd_split)) <;> (intro hc; (try simp only [hcn] at hc); (try simp only [hc]); (try simp only [hcl] at hc); try omega))
  refine AL.own (by simp) hfg1 fun g2 t2 n2 o2 => ?_
  have hfg2 := t2.fl hfg1
  have bf2 := bf1.grow t2
  repeat' (first
    | refine St.h ?_
    | simp (disch := first | omega | (simp only [lnv]; omega)) only [wlk, ↓get_put', Nat.reduceEqDiff, Nat.reduceLT, ↓reduceIte, Int.reduceToNat, Nat.reducePow, Nat.min_eq_left, Nat.reduceAdd, Nat.reduceMul, Int.reduceAdd, Int.reduceSub, Int.reduceNeg, Int.reduceMul, Int.reduceEq, Int.reduceLT, Int.reduceLE, Nat.reduceSub, Int.reduceNatCast, Nat.reduceLeDiff, f0, f3, f4, f5]
    | (with_reducible (first | apply cd_split | apply gd_split)) <;> (intro hc; (try simp only [hcn] at hc); (try simp only [hc]); (try simp only [hcl] at hc); try omega))
  refine ST.all o2 rfl rfl (by simp) (by simp) fun g3 o3 t3 => ?_
  have hu3 : ∀ q, isOf u q → q ≠ g1.next := fun q hq e => absurd (bf1.own hq).2 (by rw [e]; exact Nat.lt_irrefl _)
  have bf3 := bf2.stay t3 (fun q hq => hu3 q hq)
  have t13 : Stay nowhere g1 g3 := t2.past' t3 fun q hq => by rw [hq]; exact Nat.le_refl _
  have st3 := (st.trans t1).trans t13
  have hfg3 := st3.fl hf
  have hes3 : Es g3 u out := Ss.buf bf3 rfl entC_len (by omega)
  by_cases e0 : f = 0
  case neg =>
    have hd2 : (f = 0) = False := eq_false e0
    repeat' (first
      | refine St.h ?_
      | simp (disch := first | omega | (simp only [lnv]; omega)) only [wlk, ↓get_put', Nat.reduceEqDiff, Nat.reduceLT, ↓reduceIte, Int.reduceToNat, Nat.reducePow, Nat.min_eq_left, Nat.reduceAdd, Nat.reduceMul, Int.reduceAdd, Int.reduceSub, Int.reduceNeg, Int.reduceMul, Int.reduceEq, Int.reduceLT, Int.reduceLE, Nat.reduceSub, Int.reduceNatCast, Nat.reduceLeDiff, f0, f3, f4, f5, hd2]
      | (with_reducible (first | apply cd_split | apply gd_split)) <;> (intro hc; (try simp only [hcn] at hc); (try simp only [hc]); (try simp only [hcl] at hc); try omega))
    subst hQ
    exact fin g3 st3 hes3 fun e more hi hse => e0 (Prod.mk.inj (Prod.mk.inj (hr.laid e more hi hse)).2).2
  subst e0
  obtain ⟨z, rfl, z1, z2, hix⟩ := hr.fit rfl
  simp only at hix
  obtain ⟨x1, x2, x3, x4⟩ := isE_len hix
  repeat' (first
    | refine St.h ?_
    | simp (disch := first | omega | (simp only [lnv]; omega)) only [wlk, ↓get_put', Nat.reduceEqDiff, Nat.reduceLT, ↓reduceIte, Int.reduceToNat, Nat.reducePow, Nat.min_eq_left, Nat.reduceAdd, Nat.reduceMul, Int.reduceAdd, Int.reduceSub, Int.reduceNeg, Int.reduceMul, Int.reduceEq, Int.reduceLT, Int.reduceLE, Nat.reduceSub, Int.reduceNatCast, Nat.reduceLeDiff, f0, f3, f4, f5, o3.row.ln]
    | (with_reducible (first | apply cd_split | apply gd_split)) <;> (intro hc; (try simp only [hcn] at hc); (try simp only [hc]); (try simp only [hcl] at hc); try omega))
  refine AL.own (by simp) hfg3 fun g4 t4 _ o4 => ?_
  have hfg4 := t4.fl hfg3
  have bf4 := bf3.grow t4
  have o34 := o3.stay t4 fun h => h
  have hfm := fm_len entC_len out
  repeat' (first
    | refine St.h ?_
    | simp (disch := first | omega | (simp only [lnv]; omega)) only [wlk, ↓get_put', Nat.reduceEqDiff, Nat.reduceLT, ↓reduceIte, Int.reduceToNat, Nat.reducePow, Nat.min_eq_left, Nat.reduceAdd, Nat.reduceMul, Int.reduceAdd, Int.reduceSub, Int.reduceNeg, Int.reduceMul, Int.reduceEq, Int.reduceLT, Int.reduceLE, Nat.reduceSub, Int.reduceNatCast, Nat.reduceLeDiff, f0, f3, f4, f5]
    | (with_reducible (first | apply cd_split | apply gd_split)) <;> (intro hc; (try simp only [hcn] at hc); (try simp only [hc]); (try simp only [hcl] at hc); try omega))
  refine AP.buf (vs := entC x) (cnt := 1) bf4 (new_row o4.row rfl (Nat.le_refl _) (by omega) (by show 4 ≤ 4; omega)) hfg4 (by omega) rfl rfl (by rw [hfm, entC_len]; omega) fun u' g5 b5 t5 ho tp => ?_
  have hug : ¬ isOf u g1.next := fun hq => hu3 _ hq rfl
  have o35 := o34.stay t5 hug
  repeat' (first
    | refine St.h ?_
    | simp (disch := first | omega | (simp only [lnv]; omega)) only [wlk, ↓get_put', Nat.reduceEqDiff, Nat.reduceLT, ↓reduceIte, Int.reduceToNat, Nat.reducePow, Nat.min_eq_left, Nat.reduceAdd, Nat.reduceMul, Int.reduceAdd, Int.reduceSub, Int.reduceNeg, Int.reduceMul, Int.reduceEq, Int.reduceLT, Int.reduceLE, Nat.reduceSub, Int.reduceNatCast, Nat.reduceLeDiff, f0, f3, f4, f5, o35.row.l1]
    | (with_reducible (first | apply cd_split | apply gd_split)) <;> (intro hc; (try simp only [hcn] at hc); (try simp only [hc]); (try simp only [hcl] at hc); try omega))
  have s5 : Stay nowhere h g5 := (st3.trans t4).past' t5 fun q hq => own q hq
  refine lp_next hI (s.length - (at0 + z)) (by omega) ⟨at0 + z, x.key, out ++ [x], u', rfl, by omega, by rw [List.length_append]; simp; omega, x1, by rw [List.all_append, hall]; simp [hix], ?_, ?_, ?_, ?_, ?_, s5, ?_, fun q hq => ?_⟩
  · intro M hMa hsM
    obtain ⟨M2, e1, e2, e3⟩ := hM M hMa hsM
    cases M2 with
    | nil =>
      rw [e3] at hdl; simp [bodyB] at hdl; omega
    | cons e M2 =>
      rw [List.all_cons, Bool.and_eq_true] at e2
      have h7 := hr.laid e _ e2.1 e3
      have hx : x = e := (Prod.mk.inj h7).1
      have hz : z = (oneB p e).length := Int.ofNat.inj (Prod.mk.inj (Prod.mk.inj h7).2).1
      refine ⟨M2, by rw [e1, hx]; simp, e2.2, ?_⟩
      rw [← List.drop_drop, e3, hz, hx]
      show (oneB p e ++ bodyB e.key M2).drop _ = _
      rw [List.drop_left]
  · simp (disch := first | omega | (simp only [lnv]; omega)) only [wlk, ↓get_put', Nat.reduceEqDiff, Nat.reduceLT, ↓reduceIte, Int.reduceToNat, Nat.reducePow, Nat.min_eq_left, Nat.reduceAdd, Nat.reduceMul, Int.reduceAdd, Int.reduceSub, Int.reduceNeg, Int.reduceMul, Int.reduceEq, Int.reduceLT, Int.reduceLE, Nat.reduceSub, Int.reduceNatCast, Nat.reduceLeDiff, f0]
  · simp (disch := first | omega | (simp only [lnv]; omega)) only [wlk, ↓get_put', Nat.reduceEqDiff, Nat.reduceLT, ↓reduceIte, Int.reduceToNat, Nat.reducePow, Nat.min_eq_left, Nat.reduceAdd, Nat.reduceMul, Int.reduceAdd, Int.reduceSub, Int.reduceNeg, Int.reduceMul, Int.reduceEq, Int.reduceLT, Int.reduceLE, Nat.reduceSub, Int.reduceNatCast, Nat.reduceLeDiff]
  · simp (disch := first | omega | (simp only [lnv]; omega)) only [wlk, ↓get_put', Nat.reduceEqDiff, Nat.reduceLT, ↓reduceIte, Int.reduceToNat, Nat.reducePow, Nat.min_eq_left, Nat.reduceAdd, Nat.reduceMul, Int.reduceAdd, Int.reduceSub, Int.reduceNeg, Int.reduceMul, Int.reduceEq, Int.reduceLT, Int.reduceLE, Nat.reduceSub, Int.reduceNatCast, Nat.reduceLeDiff]
  · simp (disch := first | omega | (simp only [lnv]; omega)) only [wlk, ↓get_put', Nat.reduceEqDiff, Nat.reduceLT, ↓reduceIte, Int.reduceToNat, Nat.reducePow, Nat.min_eq_left, Nat.reduceAdd, Nat.reduceMul, Int.reduceAdd, Int.reduceSub, Int.reduceNeg, Int.reduceMul, Int.reduceEq, Int.reduceLT, Int.reduceLE, Nat.reduceSub, Int.reduceNatCast, Nat.reduceLeDiff]; all_goals (congr 1; try omega)
  · rw [List.flatMap_append]; simpa using b5
  · rcases ho q hq with h1 | h1
    · exact own q h1
    · have := st3.next; have := t4.next; omega
theorem bread_ok {h : H} {s : List UInt8} (hs : s.length ≤ 10000) (hf : B.val h.floor ≤ B.val h.next) : FnOk Try.prog 41 [sv s] h fun y h' => ∃ v, y = .tu [v, .i .i64 (readB s).2] ∧ Es h' v (readB s).1 ∧ Stay nowhere h h' := by
  refine fn_go c41 (by intro hb; cases hb) (by simp) (by simp) fun Q hQ => ?_
  simp only [slotsF, Nat.reduceAdd]
  repeat' (first
    | refine St.h ?_
    | simp (disch := first | omega | (simp only [lnv]; omega)) only [wlk, ↓get_put', Nat.reduceEqDiff, Nat.reduceLT, ↓reduceIte, Int.reduceToNat, Nat.reducePow, Nat.min_eq_left, Nat.reduceAdd, Nat.reduceMul, Int.reduceAdd, Int.reduceSub, Int.reduceNeg, Int.reduceMul, Int.reduceEq, Int.reduceLT, Int.reduceLE, Nat.reduceSub, Int.reduceNatCast, Nat.reduceLeDiff]
    | (with_reducible (first | apply cd_split | apply gd_split)) <;> (intro hc; (try simp only [hcn] at hc); (try simp only [hc]); (try simp only [hcl] at hc); try omega))
  refine CL.stay (open_ok (by omega) hf) fun h1 s1 => ?_
  have hf1 := s1.fl hf
  rcases openB_range s with hO | hO | ⟨b, n, hO, n1, n2, n3⟩
  · unfold opn; rw [hO]
    repeat' (first
      | refine St.h ?_
      | simp (disch := first | omega | (simp only [lnv]; omega)) only [wlk, ↓get_put', Nat.reduceEqDiff, Nat.reduceLT, ↓reduceIte, Int.reduceToNat, Nat.reducePow, Nat.min_eq_left, Nat.reduceAdd, Nat.reduceMul, Int.reduceAdd, Int.reduceSub, Int.reduceNeg, Int.reduceMul, Int.reduceEq, Int.reduceLT, Int.reduceLE, Nat.reduceSub, Int.reduceNatCast, Nat.reduceLeDiff]
      | (with_reducible (first | apply cd_split | apply gd_split)) <;> (intro hc; (try simp only [hcn] at hc); (try simp only [hc]); (try simp only [hcl] at hc); try omega))
    subst hQ
    exact ⟨_, by rw [readB_1 hO (by omega)], by rw [readB_1 hO (by omega)]; exact Ss.nil, s1⟩
  · unfold opn; rw [hO]
    repeat' (first
      | refine St.h ?_
      | simp (disch := first | omega | (simp only [lnv]; omega)) only [wlk, ↓get_put', Nat.reduceEqDiff, Nat.reduceLT, ↓reduceIte, Int.reduceToNat, Nat.reducePow, Nat.min_eq_left, Nat.reduceAdd, Nat.reduceMul, Int.reduceAdd, Int.reduceSub, Int.reduceNeg, Int.reduceMul, Int.reduceEq, Int.reduceLT, Int.reduceLE, Nat.reduceSub, Int.reduceNatCast, Nat.reduceLeDiff]
      | (with_reducible (first | apply cd_split | apply gd_split)) <;> (intro hc; (try simp only [hcn] at hc); (try simp only [hc]); (try simp only [hcl] at hc); try omega))
    subst hQ
    exact ⟨_, by rw [readB_1 hO (by omega)], by rw [readB_1 hO (by omega)]; exact Ss.nil, s1⟩
  unfold opn; rw [hO]
  by_cases hn : n = s.length
  case neg =>
    have hd : ((n : Int) < (s.length : Int)) = True := eq_true (by omega)
    repeat' (first
      | refine St.h ?_
      | simp (disch := first | omega | (simp only [lnv]; omega)) only [wlk, ↓get_put', Nat.reduceEqDiff, Nat.reduceLT, ↓reduceIte, Int.reduceToNat, Nat.reducePow, Nat.min_eq_left, Nat.reduceAdd, Nat.reduceMul, Int.reduceAdd, Int.reduceSub, Int.reduceNeg, Int.reduceMul, Int.reduceEq, Int.reduceLT, Int.reduceLE, Nat.reduceSub, Int.reduceNatCast, Nat.reduceLeDiff, hd]
      | (with_reducible (first | apply cd_split | apply gd_split)) <;> (intro hc; (try simp only [hcn] at hc); (try simp only [hc]); (try simp only [hcl] at hc); try omega))
    subst hQ
    exact ⟨_, by rw [readB_2 hO hn], by rw [readB_2 hO hn]; exact Ss.nil, s1⟩
  have hd : ((n : Int) < (s.length : Int)) = False := eq_false (by omega)
  repeat' (first
    | refine St.h ?_
    | simp (disch := first | omega | (simp only [lnv]; omega)) only [wlk, ↓get_put', Nat.reduceEqDiff, Nat.reduceLT, ↓reduceIte, Int.reduceToNat, Nat.reducePow, Nat.min_eq_left, Nat.reduceAdd, Nat.reduceMul, Int.reduceAdd, Int.reduceSub, Int.reduceNeg, Int.reduceMul, Int.reduceEq, Int.reduceLT, Int.reduceLE, Nat.reduceSub, Int.reduceNatCast, Nat.reduceLeDiff, hd]
    | (with_reducible (first | apply cd_split | apply gd_split)) <;> (intro hc; (try simp only [hcn] at hc); (try simp only [hc]); (try simp only [hcl] at hc); try omega))
  refine CL.mk (takeAll_ok (by omega) hf1) ?_
  rintro v h2 ⟨L, hL, hl, hall, hM, s2⟩
  have hf2 := s2.fl hf1
  repeat' (first
    | refine St.h ?_
    | simp (disch := first | omega | (simp only [lnv]; omega)) only [wlk, ↓get_put', Nat.reduceEqDiff, Nat.reduceLT, ↓reduceIte, Int.reduceToNat, Nat.reducePow, Nat.min_eq_left, Nat.reduceAdd, Nat.reduceMul, Int.reduceAdd, Int.reduceSub, Int.reduceNeg, Int.reduceMul, Int.reduceEq, Int.reduceLT, Int.reduceLE, Nat.reduceSub, Int.reduceNatCast, Nat.reduceLeDiff]
    | (with_reducible (first | apply cd_split | apply gd_split)) <;> (intro hc; (try simp only [hcn] at hc); (try simp only [hc]); (try simp only [hcl] at hc); try omega))
  refine CL.stay (bmake_ok hL (by omega) hf2) fun h3 s3 => ?_
  have s13 := (s1.trans s2).trans s3
  by_cases e1 : (blkE L).1 = s
  · have hne : L ≠ [] := by intro e; rw [e, blkE_nil] at e1; rw [← e1] at hn; simp at hn; omega
    have hso : sortedE L = true := by
      cases hs : sortedE L with
      | true => rfl
      | false => rw [blkE_un hall hne hs] at e1; rw [← e1] at hn; simp at hn; omega
    have hr : readB s = (L, 0) := by
      rw [blkE_ok hall hne hso] at e1
      rw [← e1]; exact readB_back hall hne hso (by omega)
    repeat' (first
      | refine St.h ?_
      | simp (disch := first | omega | (simp only [lnv]; omega)) only [wlk, ↓get_put', Nat.reduceEqDiff, Nat.reduceLT, ↓reduceIte, Int.reduceToNat, Nat.reducePow, Nat.min_eq_left, Nat.reduceAdd, Nat.reduceMul, Int.reduceAdd, Int.reduceSub, Int.reduceNeg, Int.reduceMul, Int.reduceEq, Int.reduceLT, Int.reduceLE, Nat.reduceSub, Int.reduceNatCast, Nat.reduceLeDiff, e1]
      | (with_reducible (first | apply cd_split | apply gd_split)) <;> (intro hc; (try simp only [hcn] at hc); (try simp only [hc]); (try simp only [hcl] at hc); try omega))
    subst hQ
    exact ⟨_, by rw [hr], by rw [hr]; exact hL.grow s3, s13⟩
  · have hr : readB s = ([], 10) := by
      by_cases h0 : (readB s).2 = 0
      · exfalso
        have hm := readB_made h0
        have h8 : ∀ M : List Ent, blkE M = (s, 0) → M.all isE = true ∧ M ≠ [] ∧ sortedE M = true := fun M hm => by
          cases ha : M.all isE with
          | false => rw [blkE_bad ha] at hm; cases hm
          | true =>
            refine ⟨rfl, fun e => ?_, ?_⟩
            · rw [e, blkE_nil] at hm; cases hm
            · cases hs : sortedE M with
              | true => rfl
              | false =>
                by_cases hne : M = []
                · rw [hne, blkE_nil] at hm; cases hm
                · rw [blkE_un ha hne hs] at hm; cases hm
        obtain ⟨q1, q2, q3⟩ := h8 _ hm
        have hm2 := hm
        rw [blkE_ok q1 q2 q3] at hm2
        have hbl := bodyB_len (p := []) q1
        have hos := openB_seal (l := bodyB [] (readB s).1) (more := []) (by have := readB_len s; omega)
        rw [List.append_nil, (Prod.mk.inj hm2).1, hO] at hos
        have := hM _ q1 (Prod.mk.inj hos).1
        rw [this] at e1
        exact e1 (by rw [hm])
      · have h1 := readB_none h0
        have h2 : (readB s).2 = 10 := by
          unfold readB at h0 ⊢
          rw [hO] at h0 ⊢
          simp only at h0 ⊢
          rw [if_neg (by simp), if_neg (by simp; omega)] at h0 ⊢
          split at h0
          · rfl
          · split at h0
            · exact absurd rfl h0
            · rw [if_neg (by assumption)]
        rw [← h1, ← h2]
    repeat' (first
      | refine St.h ?_
      | simp (disch := first | omega | (simp only [lnv]; omega)) only [wlk, ↓get_put', Nat.reduceEqDiff, Nat.reduceLT, ↓reduceIte, Int.reduceToNat, Nat.reducePow, Nat.min_eq_left, Nat.reduceAdd, Nat.reduceMul, Int.reduceAdd, Int.reduceSub, Int.reduceNeg, Int.reduceMul, Int.reduceEq, Int.reduceLT, Int.reduceLE, Nat.reduceSub, Int.reduceNatCast, Nat.reduceLeDiff, e1]
      | (with_reducible (first | apply cd_split | apply gd_split)) <;> (intro hc; (try simp only [hcn] at hc); (try simp only [hc]); (try simp only [hcl] at hc); try omega))
    subst hQ
    exact ⟨_, by rw [hr], by rw [hr]; exact Ss.nil, s13⟩
end Go.Proofs.Ytjlhfoadabkahaa

set_option maxRecDepth 1000000
set_option linter.all false
namespace Go.Proofs.Ytjlhfoadabkahaa
open Go Go.Ev
noncomputable abbrev s8_0 : CC := (CC.seq (CC.region [(wB 8 (doMove (O.c (V.b Bool.false))))]) CC.ret)
noncomputable abbrev s8_1 : CC := (CC.cond (tm 18) s8_0 CC.skip)
noncomputable abbrev s8_2 : CC := (CC.seq (CC.region [(wB 17 (doCall 37 [])), (wB 18 (doNot (tm 17)))]) s8_1)
noncomputable abbrev s8_3 : CC := (CC.seq (CC.region [(wB 8 (doMove (O.c (V.b Bool.true))))]) CC.ret)
noncomputable abbrev s8_4 : CC := (CC.cond (tm 36) s8_3 CC.skip)
noncomputable abbrev s8_5 : CC := (CC.seq (CC.region [(wB 19 (doMove (tm 0))), (wB 20 (doCall 38 [(tm 19)])), (wB 21 (doNot (tm 20))), (wB 22 (doMove (tm 21))), (wG 22 false 23 (doMove (tm 1))), (wG 22 false 24 (doLenS (tm 23))), (wG 22 false 25 (bin2 fGtr (tm 24) (oN 1000))), (wB 26 (doPick (tm 22) (O.c (V.b Bool.true)) (tm 25))), (wB 27 (doMove (tm 26))), (wG 27 false 28 (doMove (tm 2))), (wG 27 false 29 (doLenS (tm 28))), (wG 27 false 30 (bin2 fGtr (tm 29) (oN 40))), (wB 31 (doPick (tm 27) (O.c (V.b Bool.true)) (tm 30))), (wB 32 (doMove (tm 31))), (wG 32 false 33 (doMove (tm 3))), (wG 32 false 34 (doLenS (tm 33))), (wG 32 false 35 (bin2 fGtr (tm 34) (oN 40))), (wB 36 (doPick (tm 32) (O.c (V.b Bool.true)) (tm 35)))]) s8_4)
noncomputable abbrev s8_6 : CC := (CC.seq (CC.region [(wB 57 (doMove (tm 9))), (wB 58 (doMove (tm 11))), (wB 59 (doSCmp eqS (tm 57) (tm 58))), (wB 60 (doMove (tm 59))), (wG 60 true 61 (doMove (tm 10))), (wG 60 true 62 (doMove (tm 12))), (wG 60 true 63 (bin2 fEql (tm 61) (tm 62))), (wB 64 (doPick (tm 60) (tm 63) (O.c (V.b Bool.false)))), (wB 65 (doMove (tm 64))), (wG 65 true 66 (doMove (tm 13))), (wG 65 true 67 (doMove (tm 15))), (wG 65 true 68 (doCall 43 [(tm 66), (tm 67)])), (wB 69 (doPick (tm 65) (tm 68) (O.c (V.b Bool.false)))), (wB 70 (doMove (tm 69))), (wG 70 true 71 (doMove (tm 14))), (wG 70 true 72 (doMove (tm 16))), (wG 70 true 73 (bin2 fEql (tm 71) (tm 72))), (wB 74 (doPick (tm 70) (tm 73) (O.c (V.b Bool.false)))), (wB 75 (doMove (tm 74))), (wG 75 true 76 (doMove (tm 2))), (wG 75 true 77 (doMove (tm 3))), (wG 75 true 78 (doCall 44 [(tm 76), (tm 77)])), (wG 75 true 79 (doMove (tm 2))), (wG 75 true 80 (doMove (tm 3))), (wG 75 true 81 (doCall 45 [(tm 79), (tm 80)])), (wG 75 true 82 (bin2 fEql (tm 78) (tm 81))), (wB 83 (doPick (tm 75) (tm 82) (O.c (V.b Bool.false)))), (wB 8 (doMove (tm 83)))]) CC.ret)
noncomputable abbrev s8_7 : CC := (CC.seq (CC.region [(wB 53 (doMove (tm 1))), (wB 54 (doCall 42 [(tm 53)])), (wB 52 (doMove (tm 54))), (wB 55 (doExtract 0 (tm 52))), (wB 56 (doExtract 1 (tm 52))), (wB 15 (doMove (tm 55))), (wB 16 (doMove (tm 56)))]) s8_6)
noncomputable abbrev s8_8 : CC := (CC.seq (CC.region [(wB 48 (doMove (tm 1))), (wB 49 (doCall 41 [(tm 48)])), (wB 47 (doMove (tm 49))), (wB 50 (doExtract 0 (tm 47))), (wB 51 (doExtract 1 (tm 47))), (wB 13 (doMove (tm 50))), (wB 14 (doMove (tm 51)))]) s8_7)
noncomputable abbrev s8_9 : CC := (CC.seq (CC.region [(wB 43 (doMove (tm 0))), (wB 44 (doCall 40 [(tm 43)])), (wB 42 (doMove (tm 44))), (wB 45 (doExtract 0 (tm 42))), (wB 46 (doExtract 1 (tm 42))), (wB 11 (doMove (tm 45))), (wB 12 (doMove (tm 46)))]) s8_8)
noncomputable abbrev s8_10 : CC := (CC.seq (CC.region [(wB 38 (doMove (tm 0))), (wB 39 (doCall 39 [(tm 38)])), (wB 37 (doMove (tm 39))), (wB 40 (doExtract 0 (tm 37))), (wB 41 (doExtract 1 (tm 37))), (wB 9 (doMove (tm 40))), (wB 10 (doMove (tm 41)))]) s8_9)
noncomputable abbrev s8_11 : CC := (CC.seq s8_5 s8_10)
noncomputable abbrev s8_12 : CC := (CC.seq s8_2 s8_11)
noncomputable abbrev b8 : CC := (CC.seq (CC.region [(wB 8 (doMove (O.c (V.b Bool.false))))]) s8_12)
noncomputable abbrev s9_0 : CC := (CC.seq (CC.region [(wB 6 (doMove (O.c (V.b Bool.false))))]) CC.ret)
noncomputable abbrev s9_1 : CC := (CC.cond (tm 28) s9_0 CC.skip)
noncomputable abbrev s9_2 : CC := (CC.seq (CC.region [(wB 27 (doCall 37 [])), (wB 28 (doNot (tm 27)))]) s9_1)
noncomputable abbrev s9_3 : CC := (CC.seq (CC.region [(wB 6 (doMove (O.c (V.b Bool.true))))]) CC.ret)
noncomputable abbrev s9_4 : CC := (CC.cond (tm 31) s9_3 CC.skip)
noncomputable abbrev s9_5 : CC := (CC.seq (CC.region [(wB 29 (doMove (tm 0))), (wB 30 (doCall 38 [(tm 29)])), (wB 31 (doNot (tm 30)))]) s9_4)
noncomputable abbrev s9_6 : CC := (CC.seq (CC.region [(wB 39 (doMove (tm 7))), (wB 40 (doSCmp eqS (tm 39) (O.c (V.s 0 0)))), (wB 6 (doMove (tm 40)))]) CC.ret)
noncomputable abbrev s9_7 : CC := (CC.cond (tm 38) s9_6 CC.skip)
noncomputable abbrev s9_8 : CC := (CC.seq (CC.region [(wB 37 (doMove (tm 8))), (wB 38 (bin2 fNeq (tm 37) (oN 0)))]) s9_7)
noncomputable abbrev s9_9 : CC := (CC.seq (CC.region [(wB 6 (doMove (O.c (V.b Bool.false))))]) CC.ret)
noncomputable abbrev s9_10 : CC := (CC.cond (tm 58) s9_9 CC.skip)
noncomputable abbrev s9_11 : CC := (CC.seq (CC.region [(wB 46 (doMove (tm 10))), (wB 47 (bin2 fNeq (tm 46) (oN 0))), (wB 48 (doMove (tm 47))), (wG 48 false 49 (doMove (tm 9))), (wG 48 false 50 (doMove (tm 0))), (wG 48 false 51 (doCall 43 [(tm 49), (tm 50)])), (wG 48 false 52 (doNot (tm 51))), (wB 53 (doPick (tm 48) (O.c (V.b Bool.true)) (tm 52))), (wB 54 (doMove (tm 53))), (wG 54 false 55 (doMove (tm 7))), (wG 54 false 56 (doLenS (tm 55))), (wG 54 false 57 (bin2 fLss (tm 56) (oN 6))), (wB 58 (doPick (tm 54) (O.c (V.b Bool.true)) (tm 57)))]) s9_10)
noncomputable abbrev s9_12 : CC := (CC.seq (CC.region [(wB 123 (doMove (tm 14))), (wB 124 (bin2 fEql (tm 123) (oN 0))), (wB 125 (doMove (tm 2))), (wB 126 (bin2 fEql (tm 125) (O.c (V.i IntKind.u8 (Int.ofNat 0))))), (wB 127 (doBool Bool.false (tm 124) (tm 126))), (wB 128 (doMove (tm 127))), (wG 128 true 129 (doMove (tm 14))), (wG 128 true 130 (bin2 fEql (tm 129) (oN 0))), (wG 128 true 131 (doMove (tm 130))), (wG 131 false 132 (doMove (tm 13))), (wG 131 false 133 (doLen (tm 132))), (wG 131 false 134 (bin2 fEql (tm 133) (oN 0))), (wG 128 true 135 (doPick (tm 131) (O.c (V.b Bool.true)) (tm 134))), (wB 136 (doPick (tm 128) (tm 135) (O.c (V.b Bool.false)))), (wB 137 (doMove (tm 136))), (wG 137 true 138 (doMove (tm 16))), (wG 137 true 139 (bin2 fEql (tm 138) (oN 12))), (wB 140 (doPick (tm 137) (tm 139) (O.c (V.b Bool.false)))), (wB 141 (doMove (tm 140))), (wG 141 true 142 (doMove (tm 15))), (wG 141 true 143 (doLen (tm 142))), (wG 141 true 144 (bin2 fEql (tm 143) (oN 0))), (wB 145 (doPick (tm 141) (tm 144) (O.c (V.b Bool.false)))), (wB 146 (doMove (tm 145))), (wG 146 true 147 (doMove (tm 24))), (wG 146 true 148 (bin2 fNeq (tm 147) (oN 0))), (wG 146 true 149 (doMove (tm 148))), (wG 149 true 150 (doMove (tm 23))), (wG 149 true 151 (doLen (tm 150))), (wG 149 true 152 (bin2 fEql (tm 151) (oN 0))), (wG 146 true 153 (doPick (tm 149) (tm 152) (O.c (V.b Bool.false)))), (wG 146 true 154 (doMove (tm 153))), (wG 154 false 155 (doMove (tm 24))), (wG 154 false 156 (bin2 fEql (tm 155) (oN 0))), (wG 154 false 157 (doMove (tm 156))), (wG 157 true 158 (doMove (tm 26))), (wG 157 true 159 (bin2 fEql (tm 158) (oN 0))), (wG 154 false 160 (doPick (tm 157) (tm 159) (O.c (V.b Bool.false)))), (wG 154 false 161 (doMove (tm 160))), (wG 161 true 162 (doMove (tm 25))), (wG 161 true 163 (doMove (tm 22))), (wG 161 true 164 (doSCmp eqS (tm 162) (tm 163))), (wG 154 false 165 (doPick (tm 161) (tm 164) (O.c (V.b Bool.false)))), (wG 146 true 166 (doPick (tm 154) (O.c (V.b Bool.true)) (tm 165))), (wB 167 (doPick (tm 146) (tm 166) (O.c (V.b Bool.false)))), (wB 6 (doMove (tm 167)))]) CC.ret)
noncomputable abbrev s9_13 : CC := (CC.seq (CC.region [(wB 119 (doMove (tm 23))), (wB 120 (doCall 39 [(tm 119)])), (wB 118 (doMove (tm 120))), (wB 121 (doExtract 0 (tm 118))), (wB 122 (doExtract 1 (tm 118))), (wB 25 (doMove (tm 121))), (wB 26 (doMove (tm 122)))]) s9_12)
noncomputable abbrev s9_14 : CC := (CC.seq (CC.region [(wB 114 (doMove (tm 22))), (wB 115 (doCall 41 [(tm 114)])), (wB 113 (doMove (tm 115))), (wB 116 (doExtract 0 (tm 113))), (wB 117 (doExtract 1 (tm 113))), (wB 23 (doMove (tm 116))), (wB 24 (doMove (tm 117)))]) s9_13)
noncomputable abbrev s9_15 : CC := (CC.seq (CC.region [(wB 110 (doMove (tm 20))), (wB 111 (doB2S (tm 110))), (wB 112 (doCall 47 [(tm 111)])), (wB 22 (doMove (tm 112)))]) s9_14)
noncomputable abbrev s9_16 : CC := (CC.seq (CC.region [(wB 101 (doMove (tm 20))), (wB 102 (doMove (tm 21))), (wB 103 (doMove (tm 20))), (wB 104 (doMove (tm 21))), (wB 105 (doIndexAddr 1 (tm 103) (tm 104))), (wB 106 (doLoad (tm 105))), (wB 107 (doMove (tm 2))), (wB 108 (bin2 fXor (tm 106) (tm 107))), (wB 109 (doIndexAddr 1 (tm 101) (tm 102))), (CO.mk G.none D.none Bool.true (CR.mk (doStore 1 (tm 109) (tm 108))))]) s9_15)
noncomputable abbrev s9_17 : CC := (CC.seq (CC.region [(wB 96 (doMove (tm 1))), (wB 97 (doConv IntKind.i64 (tm 96))), (wB 98 (doMove (tm 20))), (wB 99 (doLen (tm 98))), (wB 100 (doRem (tm 97) (tm 99))), (wB 21 (doMove (tm 100)))]) s9_16)
noncomputable abbrev s9_18 : CC := (CC.seq (CC.region [(wB 94 (doMove (tm 17))), (wB 95 (doS2B 5 (tm 94))), (wB 20 (doMove (tm 95)))]) s9_17)
noncomputable abbrev s9_19 : CC := (CC.seq (CC.region [(wB 89 (doMove (tm 7))), (wB 90 (doCall 46 [(tm 89)])), (wB 88 (doMove (tm 90))), (wB 91 (doExtract 0 (tm 88))), (wB 92 (doExtract 1 (tm 88))), (wB 93 (doExtract 2 (tm 88))), (wB 17 (doMove (tm 91))), (wB 18 (doMove (tm 92))), (wB 19 (doMove (tm 93)))]) s9_18)
noncomputable abbrev s9_20 : CC := (CC.seq (CC.region [(wB 82 (doMove (tm 7))), (wB 83 (doMove (tm 12))), (wB 84 (doSSlice (tm 82) none (some (tm 83)))), (wB 85 (doCall 41 [(tm 84)])), (wB 81 (doMove (tm 85))), (wB 86 (doExtract 0 (tm 81))), (wB 87 (doExtract 1 (tm 81))), (wB 15 (doMove (tm 86))), (wB 16 (doMove (tm 87)))]) s9_19)
noncomputable abbrev s9_21 : CC := (CC.seq (CC.region [(wB 76 (doMove (tm 11))), (wB 77 (doB2S (tm 76))), (wB 78 (doCall 41 [(tm 77)])), (wB 75 (doMove (tm 78))), (wB 79 (doExtract 0 (tm 75))), (wB 80 (doExtract 1 (tm 75))), (wB 13 (doMove (tm 79))), (wB 14 (doMove (tm 80)))]) s9_20)
noncomputable abbrev s9_22 : CC := (CC.seq (CC.region [(wB 66 (doMove (tm 11))), (wB 67 (doMove (tm 12))), (wB 68 (doMove (tm 11))), (wB 69 (doMove (tm 12))), (wB 70 (doIndexAddr 1 (tm 68) (tm 69))), (wB 71 (doLoad (tm 70))), (wB 72 (doMove (tm 2))), (wB 73 (bin2 fXor (tm 71) (tm 72))), (wB 74 (doIndexAddr 1 (tm 66) (tm 67))), (CO.mk G.none D.none Bool.true (CR.mk (doStore 1 (tm 74) (tm 73))))]) s9_21)
noncomputable abbrev s9_23 : CC := (CC.seq (CC.region [(wB 61 (doMove (tm 1))), (wB 62 (doConv IntKind.i64 (tm 61))), (wB 63 (doMove (tm 11))), (wB 64 (doLen (tm 63))), (wB 65 (doRem (tm 62) (tm 64))), (wB 12 (doMove (tm 65)))]) s9_22)
noncomputable abbrev s9_24 : CC := (CC.seq (CC.region [(wB 59 (doMove (tm 7))), (wB 60 (doS2B 5 (tm 59))), (wB 11 (doMove (tm 60)))]) s9_23)
noncomputable abbrev s9_25 : CC := (CC.seq s9_11 s9_24)
noncomputable abbrev s9_26 : CC := (CC.seq (CC.region [(wB 42 (doMove (tm 7))), (wB 43 (doCall 41 [(tm 42)])), (wB 41 (doMove (tm 43))), (wB 44 (doExtract 0 (tm 41))), (wB 45 (doExtract 1 (tm 41))), (wB 9 (doMove (tm 44))), (wB 10 (doMove (tm 45)))]) s9_25)
noncomputable abbrev s9_27 : CC := (CC.seq s9_8 s9_26)
noncomputable abbrev s9_28 : CC := (CC.seq (CC.region [(wB 33 (doMove (tm 0))), (wB 34 (doCall 39 [(tm 33)])), (wB 32 (doMove (tm 34))), (wB 35 (doExtract 0 (tm 32))), (wB 36 (doExtract 1 (tm 32))), (wB 7 (doMove (tm 35))), (wB 8 (doMove (tm 36)))]) s9_27)
noncomputable abbrev s9_29 : CC := (CC.seq s9_5 s9_28)
noncomputable abbrev s9_30 : CC := (CC.seq s9_2 s9_29)
noncomputable abbrev b9 : CC := (CC.seq (CC.region [(wB 6 (doMove (O.c (V.b Bool.false))))]) s9_30)
theorem c9 : compFn Try.prog 9 = ⟨168, b9, [(Rs.tmp (slOf 6))]⟩ := by kernel_rfl
noncomputable abbrev s10_0 : CC := (CC.seq (CC.region [(wB 4 (doMove (O.c (V.b Bool.false))))]) CC.ret)
noncomputable abbrev s10_1 : CC := (CC.cond (tm 7) s10_0 CC.skip)
noncomputable abbrev s10_2 : CC := (CC.seq (CC.region [(wB 6 (doCall 37 [])), (wB 7 (doNot (tm 6)))]) s10_1)
noncomputable abbrev s10_3 : CC := (CC.seq (CC.region [(wB 4 (doMove (O.c (V.b Bool.true))))]) CC.ret)
noncomputable abbrev s10_4 : CC := (CC.cond (tm 15) s10_3 CC.skip)
noncomputable abbrev s10_5 : CC := (CC.seq (CC.region [(wB 8 (doMove (tm 0))), (wB 9 (doLenS (tm 8))), (wB 10 (bin2 fGtr (tm 9) (oN 60))), (wB 11 (doMove (tm 10))), (wG 11 false 12 (doMove (tm 1))), (wG 11 false 13 (doLenS (tm 12))), (wG 11 false 14 (bin2 fGtr (tm 13) (oN 60))), (wB 15 (doPick (tm 11) (O.c (V.b Bool.true)) (tm 14)))]) s10_4)
noncomputable abbrev s10_6 : CC := (CC.seq (CC.draws [(uB 19 (doMove (tm 5))), (uB 20 (doMove (tm 1))), (uB 21 (doMove (tm 0))), (wB 22 (doCall 44 [(tm 20), (tm 21)])), (uB 23 (bin2 fEql (tm 19) (tm 22))), (uB 24 (doMove (tm 23))), (uG 24 true 25 (doMove (tm 5))), (uG 24 true 26 (bin2 fGeq (tm 25) (oN 0))), (uB 27 (doPick (tm 24) (tm 26) (O.c (V.b Bool.false)))), (uB 28 (doMove (tm 27))), (uG 28 true 29 (doMove (tm 5))), (uG 28 true 30 (doMove (tm 0))), (uG 28 true 31 (doLenS (tm 30))), (uG 28 true 32 (bin2 fLeq (tm 29) (tm 31))), (uB 33 (doPick (tm 28) (tm 32) (O.c (V.b Bool.false)))), (uB 34 (doMove (tm 33))), (uG 34 true 35 (doMove (tm 5))), (uG 34 true 36 (doMove (tm 1))), (uG 34 true 37 (doLenS (tm 36))), (uG 34 true 38 (bin2 fLeq (tm 35) (tm 37))), (uB 39 (doPick (tm 34) (tm 38) (O.c (V.b Bool.false)))), (uB 40 (doMove (tm 39))), (uG 40 true 41 (doMove (tm 0))), (uG 40 true 42 (doMove (tm 5))), (uG 40 true 43 (doSSlice (tm 41) none (some (tm 42)))), (uG 40 true 44 (doMove (tm 1))), (uG 40 true 45 (doMove (tm 5))), (uG 40 true 46 (doSSlice (tm 44) none (some (tm 45)))), (uG 40 true 47 (doSCmp eqS (tm 43) (tm 46))), (uB 48 (doPick (tm 40) (tm 47) (O.c (V.b Bool.false)))), (uB 49 (doMove (tm 48))), (uG 49 true 50 (doMove (tm 5))), (uG 49 true 51 (doMove (tm 0))), (uG 49 true 52 (doLenS (tm 51))), (uG 49 true 53 (bin2 fEql (tm 50) (tm 52))), (uG 49 true 54 (doMove (tm 53))), (uG 54 false 55 (doMove (tm 5))), (uG 54 false 56 (doMove (tm 1))), (uG 54 false 57 (doLenS (tm 56))), (uG 54 false 58 (bin2 fEql (tm 55) (tm 57))), (uG 49 true 59 (doPick (tm 54) (O.c (V.b Bool.true)) (tm 58))), (uG 49 true 60 (doMove (tm 59))), (uG 60 false 61 (doMove (tm 0))), (uG 60 false 62 (doMove (tm 5))), (uG 60 false 63 (doSIndex (tm 61) (tm 62))), (uG 60 false 64 (doMove (tm 1))), (uG 60 false 65 (doMove (tm 5))), (uG 60 false 66 (doSIndex (tm 64) (tm 65))), (uG 60 false 67 (bin2 fNeq (tm 63) (tm 66))), (uG 49 true 68 (doPick (tm 60) (O.c (V.b Bool.true)) (tm 67))), (uB 69 (doPick (tm 49) (tm 68) (O.c (V.b Bool.false)))), (uB 70 (doMove (tm 69))), (uG 70 true 71 (doMove (tm 0))), (uG 70 true 72 (doMove (tm 0))), (wG 70 true 73 (doCall 44 [(tm 71), (tm 72)])), (uG 70 true 74 (doMove (tm 0))), (uG 70 true 75 (doLenS (tm 74))), (uG 70 true 76 (bin2 fEql (tm 73) (tm 75))), (uB 77 (doPick (tm 70) (tm 76) (O.c (V.b Bool.false)))), (uB 4 (doMove (tm 77)))]) CC.ret)
noncomputable abbrev s10_7 : CC := (CC.seq (CC.region [(wB 16 (doMove (tm 0))), (wB 17 (doMove (tm 1))), (wB 18 (doCall 44 [(tm 16), (tm 17)])), (wB 5 (doMove (tm 18)))]) s10_6)
noncomputable abbrev s10_8 : CC := (CC.seq s10_5 s10_7)
noncomputable abbrev s10_9 : CC := (CC.seq s10_2 s10_8)
noncomputable abbrev b10 : CC := (CC.seq (CC.region [(wB 4 (doMove (O.c (V.b Bool.false))))]) s10_9)
end Go.Proofs.Ytjlhfoadabkahaa

set_option maxRecDepth 1000000
namespace Go.Proofs.Ytjlhfoadabkahaa.ravelinlaw8
open Go.Ev
theorem known_run : runFn noTb Try.prog 1000 37 [] = true := by kernel_rfl
theorem known_pure : PureTrue Try.prog 37 := pure_of (noTb_ok _) (Checked.mixed Try.checked) known_run
end Go.Proofs.Ytjlhfoadabkahaa.ravelinlaw8

set_option maxRecDepth 100000
set_option maxHeartbeats 8000000
set_option linter.all false
namespace Go.Proofs.Ytjlhfoadabkahaa
open Go Go.Ev
theorem few8_ok {h : H} {v : V} {L : List Ent} (hL : Es h v L) (hl : L.length ≤ 9223372036854775807) : FnOk Try.prog 38 [v] h fun y h' => y = .b (fewE L) ∧ h' = h := by
  refine fn_go c38 (by intro hb; cases hb) (by simp) (by simp) fun Q hQ => ?_
  simp only [slotsF, Nat.reduceAdd]
  repeat' (first
    | refine St.h ?_
    | simp (disch := first | omega | (simp only [lnv]; omega)) only [wlk, ↓get_put', Nat.reduceEqDiff, Nat.reduceLT, ↓reduceIte, Int.reduceToNat, Nat.reducePow, Nat.min_eq_left, Nat.reduceAdd, Nat.reduceMul, Int.reduceAdd, Int.reduceSub, Int.reduceNeg, Int.reduceMul, Int.reduceEq, Int.reduceLT, Int.reduceLE, Nat.reduceSub, Int.reduceNatCast, Nat.reduceLeDiff]
    | (with_reducible (first | apply cd_split | apply gd_split)) <;> (intro hc; (try simp only [hcn] at hc); (try simp only [hc]); (try simp only [hcl] at hc); try omega))
  refine Ok.lp (fun m t g => ∃ j : Nat, m = L.length - j ∧ h = g ∧ (∀ i, i < j → okE (L.getD i default) = true) ∧ j ≤ L.length ∧ get 0 t = v ∧ get 3 t = .i .i64 (j : Int)) L.length ?_ ?_
  · simp (disch := first | omega | (simp only [lnv]; omega)) only [wlk, ↓get_put', Nat.reduceEqDiff, Nat.reduceLT, ↓reduceIte, Int.reduceToNat, Nat.reducePow, Nat.min_eq_left, Nat.reduceAdd, Nat.reduceMul, Int.reduceAdd, Int.reduceSub, Int.reduceNeg, Int.reduceMul, Int.reduceEq, Int.reduceLT, Int.reduceLE, Nat.reduceSub, Int.reduceNatCast, Nat.reduceLeDiff]
    exact ⟨0, by omega, trivial, fun i hi => by omega, by omega, trivial, rfl⟩
  rintro I hI m t g ⟨j, rfl, rfl, hs, hj, f0, f3⟩
  repeat' (first
    | refine St.h ?_
    | simp (disch := first | omega | (simp only [lnv]; omega)) only [wlk, ↓get_put', Nat.reduceEqDiff, Nat.reduceLT, ↓reduceIte, Int.reduceToNat, Nat.reducePow, Nat.min_eq_left, Nat.reduceAdd, Nat.reduceMul, Int.reduceAdd, Int.reduceSub, Int.reduceNeg, Int.reduceMul, Int.reduceEq, Int.reduceLT, Int.reduceLE, Nat.reduceSub, Int.reduceNatCast, Nat.reduceLeDiff, f0, f3, hL.ln, hL.ix, hL.l0, hL.l3, Int.toNat_natCast]
    | (with_reducible (first | apply cd_split | apply gd_split)) <;> (intro hc; (try simp only [hcn] at hc); (try simp only [hc]); (try simp only [hcl] at hc); try omega))
  · have hb : okE (L.getD j default) = false := by unfold okE; rw [decide_eq_false (p := (L.getD j default).key.length ≤ 20) (by omega), Bool.false_and]
    subst hQ
    exact ⟨by unfold fewE; rw [all_at (by omega) hb]; rfl, rfl⟩
  · have hb : okE (L.getD j default) = false := by unfold okE; rw [decide_eq_false (p := (L.getD j default).val.length ≤ 40) (by omega), Bool.and_false]
    subst hQ
    exact ⟨by unfold fewE; rw [all_at (by omega) hb]; rfl, rfl⟩
  · have hb : okE (L.getD j default) = true := by unfold okE; rw [decide_eq_true (p := (L.getD j default).val.length ≤ 40) (by omega), decide_eq_true (p := (L.getD j default).key.length ≤ 20) (by omega)]; rfl
    refine lp_next hI (L.length - (j + 1)) (by omega) ⟨j + 1, rfl, rfl, fun i hi => ?_, by omega, ?_, ?_⟩
    · rcases Nat.lt_or_ge i j with h1 | h1
      · exact hs i h1
      · rw [show i = j by omega]; exact hb
    · simp (disch := first | omega | (simp only [lnv]; omega)) only [wlk, ↓get_put', Nat.reduceEqDiff, Nat.reduceLT, ↓reduceIte, Int.reduceToNat, Nat.reducePow, Nat.min_eq_left, Nat.reduceAdd, Nat.reduceMul, Int.reduceAdd, Int.reduceSub, Int.reduceNeg, Int.reduceMul, Int.reduceEq, Int.reduceLT, Int.reduceLE, Nat.reduceSub, Int.reduceNatCast, Nat.reduceLeDiff, f0]
    · simp (disch := first | omega | (simp only [lnv]; omega)) only [wlk, ↓get_put', Nat.reduceEqDiff, Nat.reduceLT, ↓reduceIte, Int.reduceToNat, Nat.reducePow, Nat.min_eq_left, Nat.reduceAdd, Nat.reduceMul, Int.reduceAdd, Int.reduceSub, Int.reduceNeg, Int.reduceMul, Int.reduceEq, Int.reduceLT, Int.reduceLE, Nat.reduceSub, Int.reduceNatCast, Nat.reduceLeDiff]; rfl
  · subst hQ
    obtain rfl : j = L.length := by omega
    refine ⟨?_, rfl⟩
    unfold fewE
    rw [all_ok hs, Bool.true_and]
    congr 2
    exact propext ⟨fun h => by omega, fun h => by omega⟩
theorem known8 {h : H} : FnOk Try.prog 37 [] h fun y h' => y = .b true ∧ h' = h := FnOk.of_pure ravelinlaw8.known_pure h
theorem few8_len {L : List Ent} (h : fewE L = true) : L.length ≤ 60 := by
  unfold fewE at h
  rw [Bool.and_eq_true] at h
  exact of_decide_eq_true h.2
end Go.Proofs.Ytjlhfoadabkahaa

set_option maxRecDepth 100000
set_option maxHeartbeats 8000000
set_option linter.all false
namespace Go.Proofs.Ytjlhfoadabkahaa
open Go Go.Ev
theorem bv_at8 {s : List UInt8} {j : Nat} (hj : j < s.length) : (s.map bv).getD j .u = .i .u8 ((s.getD j 0).toNat : Int) := by
  simp [List.getD, hj]; rfl
theorem es_ln {h h' : H} {v : V} {L : List Ent} (a : Es h v L) : ∀ N, H1 Try.prog gLen v h' N = N.go Try.prog (.i .i64 (L.length : Int)) h' := fun N => Es.ln a
theorem blockBack_ok {h : H} {v : V} {L : List Ent} {n : Nat} {y : UInt8} (hL : Es h v L) (hl : L.length ≤ 9223372036854775807) (hn : n ≤ 65535) (hf : B.val h.floor ≤ B.val h.next) :
    FnOk Try.prog 9 [v, .i .u16 (n : Int), .i .u8 (y.toNat : Int)] h fun r h' => r = .b true := by
  have hy := y.toNat_lt
  refine fn_go c9 (by intro hb; cases hb) (by simp) (by simp) fun Q hQ => ?_
  simp only [slotsF, Nat.reduceAdd]
  repeat' (first
    | refine St.h ?_
    | simp (disch := first | omega | (simp only [lnv]; omega)) only [wlk, ↓get_put', Nat.reduceEqDiff, Nat.reduceLT, ↓reduceIte, Int.reduceToNat, Nat.reducePow, Nat.min_eq_left, Nat.reduceAdd, Nat.reduceMul, Int.reduceAdd, Int.reduceSub, Int.reduceNeg, Int.reduceMul, Int.reduceEq, Int.reduceLT, Int.reduceLE, Nat.reduceSub, Int.reduceNatCast, Nat.reduceLeDiff]
    | (with_reducible (first | apply cd_split | apply gd_split)) <;> (intro hc; (try simp only [hcn] at hc); (try simp only [hc]); (try simp only [hcl] at hc); try omega))
  refine CL.pure known8 ?_
  repeat' (first
    | refine St.h ?_
    | simp (disch := first | omega | (simp only [lnv]; omega)) only [wlk, ↓get_put', Nat.reduceEqDiff, Nat.reduceLT, ↓reduceIte, Int.reduceToNat, Nat.reducePow, Nat.min_eq_left, Nat.reduceAdd, Nat.reduceMul, Int.reduceAdd, Int.reduceSub, Int.reduceNeg, Int.reduceMul, Int.reduceEq, Int.reduceLT, Int.reduceLE, Nat.reduceSub, Int.reduceNatCast, Nat.reduceLeDiff]
    | (with_reducible (first | apply cd_split | apply gd_split)) <;> (intro hc; (try simp only [hcn] at hc); (try simp only [hc]); (try simp only [hcl] at hc); try omega))
  refine CL.pure (few8_ok hL hl) ?_
  cases hfl : fewE L with
  | false =>
    repeat' (first
      | refine St.h ?_
      | simp (disch := first | omega | (simp only [lnv]; omega)) only [wlk, ↓get_put', Nat.reduceEqDiff, Nat.reduceLT, ↓reduceIte, Int.reduceToNat, Nat.reducePow, Nat.min_eq_left, Nat.reduceAdd, Nat.reduceMul, Int.reduceAdd, Int.reduceSub, Int.reduceNeg, Int.reduceMul, Int.reduceEq, Int.reduceLT, Int.reduceLE, Nat.reduceSub, Int.reduceNatCast, Nat.reduceLeDiff]
      | (with_reducible (first | apply cd_split | apply gd_split)) <;> (intro hc; (try simp only [hcn] at hc); (try simp only [hc]); (try simp only [hcl] at hc); try omega))
    subst hQ; rfl
  | true =>
  have hl60 := few8_len hfl
  repeat' (first
    | refine St.h ?_
    | simp (disch := first | omega | (simp only [lnv]; omega)) only [wlk, ↓get_put', Nat.reduceEqDiff, Nat.reduceLT, ↓reduceIte, Int.reduceToNat, Nat.reducePow, Nat.min_eq_left, Nat.reduceAdd, Nat.reduceMul, Int.reduceAdd, Int.reduceSub, Int.reduceNeg, Int.reduceMul, Int.reduceEq, Int.reduceLT, Int.reduceLE, Nat.reduceSub, Int.reduceNatCast, Nat.reduceLeDiff]
    | (with_reducible (first | apply cd_split | apply gd_split)) <;> (intro hc; (try simp only [hcn] at hc); (try simp only [hc]); (try simp only [hcl] at hc); try omega))
  refine CL.stay (bmake_ok hL (by omega) hf) fun h1 s1 => ?_
  have hf1 := s1.fl hf
  have hL1 := hL.grow s1
  cases hall : L.all isE with
  | false =>
    rw [blkE_bad hall]
    repeat' (first
      | refine St.h ?_
      | simp (disch := first | omega | (simp only [lnv]; omega)) only [wlk, ↓get_put', Nat.reduceEqDiff, Nat.reduceLT, ↓reduceIte, Int.reduceToNat, Nat.reducePow, Nat.min_eq_left, Nat.reduceAdd, Nat.reduceMul, Int.reduceAdd, Int.reduceSub, Int.reduceNeg, Int.reduceMul, Int.reduceEq, Int.reduceLT, Int.reduceLE, Nat.reduceSub, Int.reduceNatCast, Nat.reduceLeDiff]
      | (with_reducible (first | apply cd_split | apply gd_split)) <;> (intro hc; (try simp only [hcn] at hc); (try simp only [hc]); (try simp only [hcl] at hc); try omega))
    subst hQ; rfl
  | true =>
  by_cases hne : L = []
  · subst hne
    rw [blkE_nil]
    repeat' (first
      | refine St.h ?_
      | simp (disch := first | omega | (simp only [lnv]; omega)) only [wlk, ↓get_put', Nat.reduceEqDiff, Nat.reduceLT, ↓reduceIte, Int.reduceToNat, Nat.reducePow, Nat.min_eq_left, Nat.reduceAdd, Nat.reduceMul, Int.reduceAdd, Int.reduceSub, Int.reduceNeg, Int.reduceMul, Int.reduceEq, Int.reduceLT, Int.reduceLE, Nat.reduceSub, Int.reduceNatCast, Nat.reduceLeDiff]
      | (with_reducible (first | apply cd_split | apply gd_split)) <;> (intro hc; (try simp only [hcn] at hc); (try simp only [hc]); (try simp only [hcl] at hc); try omega))
    subst hQ; rfl
  cases hso : sortedE L with
  | false =>
    rw [blkE_un hall hne hso]
    repeat' (first
      | refine St.h ?_
      | simp (disch := first | omega | (simp only [lnv]; omega)) only [wlk, ↓get_put', Nat.reduceEqDiff, Nat.reduceLT, ↓reduceIte, Int.reduceToNat, Nat.reducePow, Nat.min_eq_left, Nat.reduceAdd, Nat.reduceMul, Int.reduceAdd, Int.reduceSub, Int.reduceNeg, Int.reduceMul, Int.reduceEq, Int.reduceLT, Int.reduceLE, Nat.reduceSub, Int.reduceNatCast, Nat.reduceLeDiff]
      | (with_reducible (first | apply cd_split | apply gd_split)) <;> (intro hc; (try simp only [hcn] at hc); (try simp only [hc]); (try simp only [hcl] at hc); try omega))
    subst hQ; rfl
  | true =>
  have hback := readB_back hall hne hso (by omega)
  have hbl := bodyB_len (p := []) hall
  have hb1 : 1 ≤ (bodyB [] L).length := by
    cases L with
    | nil => exact absurd rfl hne
    | cons e L =>
      have e1 : bodyB [] (e :: L) = oneB [] e ++ bodyB e.key L := rfl
      have := one_pos [] e
      rw [e1, List.length_append]; omega
  rw [blkE_ok hall hne hso]
  generalize bodyB [] L = b at *
  have hsl := sealB_len b
  have hnl := numB_len (n := b.length) (by omega)
  have hn1 := numB_pos b.length
  have hcut := fun c hc => readB_cut (b := b) (c := c) (by omega) hc
  have hop : openB (sealB b) = (b, ((sealB b).length : Int), 0) := by
    have := openB_seal (l := b) (more := []) (by omega)
    rwa [List.append_nil] at this
  have htn := fun k y hk => readB_turned (k := k) (y := y) hback hk
  generalize hS : sealB b = S at *
  repeat' (first
    | refine St.h ?_
    | simp (disch := first | omega | (simp only [lnv]; omega)) only [wlk, ↓get_put', Nat.reduceEqDiff, Nat.reduceLT, ↓reduceIte, Int.reduceToNat, Nat.reducePow, Nat.min_eq_left, Nat.reduceAdd, Nat.reduceMul, Int.reduceAdd, Int.reduceSub, Int.reduceNeg, Int.reduceMul, Int.reduceEq, Int.reduceLT, Int.reduceLE, Nat.reduceSub, Int.reduceNatCast, Nat.reduceLeDiff]
    | (with_reducible (first | apply cd_split | apply gd_split)) <;> (intro hc; (try simp only [hcn] at hc); (try simp only [hc]); (try simp only [hcl] at hc); try omega))
  refine CL.mk (bread_ok (s := S) (by omega) hf1) ?_
  rintro _ h2 ⟨u, rfl, eu, s2⟩
  have hf2 := s2.fl hf1
  have hL2 := hL1.grow s2
  rw [hback] at eu ⊢
  have dL : decide (L = L) = true := decide_eq_true rfl
  repeat' (first
    | refine St.h ?_
    | simp (disch := first | omega | (simp only [lnv]; omega)) only [wlk, ↓get_put', Nat.reduceEqDiff, Nat.reduceLT, ↓reduceIte, Int.reduceToNat, Nat.reducePow, Nat.min_eq_left, Nat.reduceAdd, Nat.reduceMul, Int.reduceAdd, Int.reduceSub, Int.reduceNeg, Int.reduceMul, Int.reduceEq, Int.reduceLT, Int.reduceLE, Nat.reduceSub, Int.reduceNatCast, Nat.reduceLeDiff]
    | (with_reducible (first | apply cd_split | apply gd_split)) <;> (intro hc; (try simp only [hcn] at hc); (try simp only [hc]); (try simp only [hcl] at hc); try omega))
  refine CL.pure (rsame_ok eu hL2 hl) ?_
  have l6 : ¬ ((S.length : Int) < 6) := by omega
  repeat' (first
    | refine St.h ?_
    | simp (disch := first | omega | (simp only [lnv]; omega)) only [wlk, ↓get_put', Nat.reduceEqDiff, Nat.reduceLT, ↓reduceIte, Int.reduceToNat, Nat.reducePow, Nat.min_eq_left, Nat.reduceAdd, Nat.reduceMul, Int.reduceAdd, Int.reduceSub, Int.reduceNeg, Int.reduceMul, Int.reduceEq, Int.reduceLT, Int.reduceLE, Nat.reduceSub, Int.reduceNatCast, Nat.reduceLeDiff, dL, l6]
    | (with_reducible (first | apply cd_split | apply gd_split)) <;> (intro hc; (try simp only [hcn] at hc); (try simp only [hc]); (try simp only [hcl] at hc); try omega))
  refine SB.own hf2 (by omega) fun h3 s3 n3 o3 => ?_
  have hf3 := s3.fl hf2
  have hk : (n : Int) % (S.length : Int) = ((n % S.length : Nat) : Int) := by omega
  have hkl : n % S.length < S.length := Nat.mod_lt _ (by omega)
  generalize n % S.length = k at *
  have hba := bv_at8 hkl
  have hbt := (S.getD k 0).toNat_lt
  have hxr : ((S.getD k 0).toNat ^^^ y.toNat) = (S.getD k 0 ^^^ y).toNat := (UInt8.toNat_xor _ _).symm
  repeat' (first
    | refine St.h ?_
    | simp (disch := first | omega | (simp only [lnv]; omega)) only [wlk, ↓get_put', Nat.reduceEqDiff, Nat.reduceLT, ↓reduceIte, Int.reduceToNat, Nat.reducePow, Nat.min_eq_left, Nat.reduceAdd, Nat.reduceMul, Int.reduceAdd, Int.reduceSub, Int.reduceNeg, Int.reduceMul, Int.reduceEq, Int.reduceLT, Int.reduceLE, Nat.reduceSub, Int.reduceNatCast, Nat.reduceLeDiff, hk, o3.row.l1, hba, hxr, List.length_map, Int.toNat_natCast]
    | (with_reducible (first | apply cd_split | apply gd_split)) <;> (intro hc; (try simp only [hcn] at hc); (try simp only [hc]); (try simp only [hcl] at hc); try omega))
  refine ST.own1 (y := bv (S.getD k 0 ^^^ y)) o3 rfl rfl (by omega) (by omega) fun h4 o4 s4 => ?_
  rw [← List.map_set] at o4
  have s24 : Stay nowhere h2 h4 := s3.past' s4 fun i hi => by rw [hi]; exact Nat.le_refl _
  have hf4 := s24.fl hf2
  have hT := o4.lst (capF S.length)
  have htl : (S.set k (S.getD k 0 ^^^ y)).length = S.length := List.length_set
  rw [List.length_map, htl] at hT
  have hTn : S.set k (S.getD k 0 ^^^ y) ≠ [] := by intro e; rw [e] at htl; simp at htl; omega
  have hturn := htn k (S.getD k 0 ^^^ y) hkl
  rw [xor_same] at hturn
  have hnone := readB_none (s := S.set k (S.getD k 0 ^^^ y))
  have hrl := readB_len (S.set k (S.getD k 0 ^^^ y))
  generalize S.set k (S.getD k 0 ^^^ y) = T at *
  repeat' (first
    | refine St.h ?_
    | simp (disch := first | omega | (simp only [lnv]; omega)) only [wlk, ↓get_put', Nat.reduceEqDiff, Nat.reduceLT, ↓reduceIte, Int.reduceToNat, Nat.reducePow, Nat.min_eq_left, Nat.reduceAdd, Nat.reduceMul, Int.reduceAdd, Int.reduceSub, Int.reduceNeg, Int.reduceMul, Int.reduceEq, Int.reduceLT, Int.reduceLE, Nat.reduceSub, Int.reduceNatCast, Nat.reduceLeDiff, hk, hT.bs hTn]
    | (with_reducible (first | apply cd_split | apply gd_split)) <;> (intro hc; (try simp only [hcn] at hc); (try simp only [hc]); (try simp only [hcl] at hc); try omega))
  refine CL.mk (bread_ok (s := T) (by omega) hf4) ?_
  rintro _ h5 ⟨ux, rfl, ex, s5⟩
  have hf5 := s5.fl hf4
  have htk : (S.take k).length = k := by rw [List.length_take]; omega
  repeat' (first
    | refine St.h ?_
    | simp (disch := first | omega | (simp only [lnv]; omega)) only [wlk, ↓get_put', Nat.reduceEqDiff, Nat.reduceLT, ↓reduceIte, Int.reduceToNat, Nat.reducePow, Nat.min_eq_left, Nat.reduceAdd, Nat.reduceMul, Int.reduceAdd, Int.reduceSub, Int.reduceNeg, Int.reduceMul, Int.reduceEq, Int.reduceLT, Int.reduceLE, Nat.reduceSub, Int.reduceNatCast, Nat.reduceLeDiff, hk, Int.toNat_natCast]
    | (with_reducible (first | apply cd_split | apply gd_split)) <;> (intro hc; (try simp only [hcn] at hc); (try simp only [hc]); (try simp only [hcl] at hc); try omega))
  refine CL.mk (bread_ok (s := S.take k) (by omega) hf5) ?_
  rintro _ h6 ⟨uy, rfl, ey, s6⟩
  have hf6 := s6.fl hf5
  have hck := hcut k hkl
  rw [hck] at ey ⊢
  repeat' (first
    | refine St.h ?_
    | simp (disch := first | omega | (simp only [lnv]; omega)) only [wlk, ↓get_put', Nat.reduceEqDiff, Nat.reduceLT, ↓reduceIte, Int.reduceToNat, Nat.reducePow, Nat.min_eq_left, Nat.reduceAdd, Nat.reduceMul, Int.reduceAdd, Int.reduceSub, Int.reduceNeg, Int.reduceMul, Int.reduceEq, Int.reduceLT, Int.reduceLE, Nat.reduceSub, Int.reduceNatCast, Nat.reduceLeDiff, hk]
    | (with_reducible (first | apply cd_split | apply gd_split)) <;> (intro hc; (try simp only [hcn] at hc); (try simp only [hc]); (try simp only [hcl] at hc); try omega))
  refine CL.stay (ropen_ok (by omega) hf6) fun h7 s7 => ?_
  have hf7 := s7.fl hf6
  unfold opn
  rw [hop]
  repeat' (first
    | refine St.h ?_
    | simp (disch := first | omega | (simp only [lnv]; omega)) only [wlk, ↓get_put', Nat.reduceEqDiff, Nat.reduceLT, ↓reduceIte, Int.reduceToNat, Nat.reducePow, Nat.min_eq_left, Nat.reduceAdd, Nat.reduceMul, Int.reduceAdd, Int.reduceSub, Int.reduceNeg, Int.reduceMul, Int.reduceEq, Int.reduceLT, Int.reduceLE, Nat.reduceSub, Int.reduceNatCast, Nat.reduceLeDiff, hk]
    | (with_reducible (first | apply cd_split | apply gd_split)) <;> (intro hc; (try simp only [hcn] at hc); (try simp only [hc]); (try simp only [hcl] at hc); try omega))
  refine SB.own hf7 (by omega) fun h8 s8 n8 o8 => ?_
  have hj : (n : Int) % (b.length : Int) = ((n % b.length : Nat) : Int) := by omega
  have hjl : n % b.length < b.length := Nat.mod_lt _ (by omega)
  generalize n % b.length = j at *
  have hba2 := bv_at8 hjl
  have hbt2 := (b.getD j 0).toNat_lt
  have hxr2 : ((b.getD j 0).toNat ^^^ y.toNat) = (b.getD j 0 ^^^ y).toNat := (UInt8.toNat_xor _ _).symm
  repeat' (first
    | refine St.h ?_
    | simp (disch := first | omega | (simp only [lnv]; omega)) only [wlk, ↓get_put', Nat.reduceEqDiff, Nat.reduceLT, ↓reduceIte, Int.reduceToNat, Nat.reducePow, Nat.min_eq_left, Nat.reduceAdd, Nat.reduceMul, Int.reduceAdd, Int.reduceSub, Int.reduceNeg, Int.reduceMul, Int.reduceEq, Int.reduceLT, Int.reduceLE, Nat.reduceSub, Int.reduceNatCast, Nat.reduceLeDiff, hj, o8.row.l1, hba2, hxr2, List.length_map, Int.toNat_natCast]
    | (with_reducible (first | apply cd_split | apply gd_split)) <;> (intro hc; (try simp only [hcn] at hc); (try simp only [hc]); (try simp only [hcl] at hc); try omega))
  refine ST.own1 (y := bv (b.getD j 0 ^^^ y)) o8 rfl rfl (by omega) (by omega) fun h9 o9 s9 => ?_
  rw [← List.map_set] at o9
  have s79 : Stay nowhere h7 h9 := s8.past' s9 fun i hi => by rw [hi]; exact Nat.le_refl _
  have hf9 := s79.fl hf7
  have hC := o9.lst (capF b.length)
  have hcl2 : (b.set j (b.getD j 0 ^^^ y)).length = b.length := List.length_set
  rw [List.length_map, hcl2] at hC
  have hCn : b.set j (b.getD j 0 ^^^ y) ≠ [] := by intro e; rw [e] at hcl2; simp at hcl2; omega
  have hscl := sealB_len (b.set j (b.getD j 0 ^^^ y))
  generalize b.set j (b.getD j 0 ^^^ y) = C at *
  rw [hcl2] at hscl
  repeat' (first
    | refine St.h ?_
    | simp (disch := first | omega | (simp only [lnv]; omega)) only [wlk, ↓get_put', Nat.reduceEqDiff, Nat.reduceLT, ↓reduceIte, Int.reduceToNat, Nat.reducePow, Nat.min_eq_left, Nat.reduceAdd, Nat.reduceMul, Int.reduceAdd, Int.reduceSub, Int.reduceNeg, Int.reduceMul, Int.reduceEq, Int.reduceLT, Int.reduceLE, Nat.reduceSub, Int.reduceNatCast, Nat.reduceLeDiff, hj, hC.bs hCn]
    | (with_reducible (first | apply cd_split | apply gd_split)) <;> (intro hc; (try simp only [hcn] at hc); (try simp only [hc]); (try simp only [hcl] at hc); try omega))
  refine CL.stay (rseal_ok (by omega) hf9) fun h10 s10 => ?_
  have hf10 := s10.fl hf9
  have hnone2 := readB_none (s := sealB C)
  have hmade := readB_made (s := sealB C)
  have hrl2 := readB_len (sealB C)
  generalize sealB C = t at *
  repeat' (first
    | refine St.h ?_
    | simp (disch := first | omega | (simp only [lnv]; omega)) only [wlk, ↓get_put', Nat.reduceEqDiff, Nat.reduceLT, ↓reduceIte, Int.reduceToNat, Nat.reducePow, Nat.min_eq_left, Nat.reduceAdd, Nat.reduceMul, Int.reduceAdd, Int.reduceSub, Int.reduceNeg, Int.reduceMul, Int.reduceEq, Int.reduceLT, Int.reduceLE, Nat.reduceSub, Int.reduceNatCast, Nat.reduceLeDiff]
    | (with_reducible (first | apply cd_split | apply gd_split)) <;> (intro hc; (try simp only [hcn] at hc); (try simp only [hc]); (try simp only [hcl] at hc); try omega))
  refine CL.mk (bread_ok (s := t) (by omega) hf10) ?_
  rintro _ h11 ⟨uz, rfl, ez, s11⟩
  have hf11 := s11.fl hf10
  repeat' (first
    | refine St.h ?_
    | simp (disch := first | omega | (simp only [lnv]; omega)) only [wlk, ↓get_put', Nat.reduceEqDiff, Nat.reduceLT, ↓reduceIte, Int.reduceToNat, Nat.reducePow, Nat.min_eq_left, Nat.reduceAdd, Nat.reduceMul, Int.reduceAdd, Int.reduceSub, Int.reduceNeg, Int.reduceMul, Int.reduceEq, Int.reduceLT, Int.reduceLE, Nat.reduceSub, Int.reduceNatCast, Nat.reduceLeDiff]
    | (with_reducible (first | apply cd_split | apply gd_split)) <;> (intro hc; (try simp only [hcn] at hc); (try simp only [hc]); (try simp only [hcl] at hc); try omega))
  refine CL.stay (bmake_ok ez (by omega) hf11) fun h12 s12 => ?_
  have eb : ((decide ((readB T).2 = 0)) == decide ((y.toNat : Int) = 0)) = true := by
    have e1 : (y = 0) ↔ ((y.toNat : Int) = 0) := ⟨fun e => by rw [e]; rfl, fun e => UInt8.toNat_inj.1 (by simpa using e)⟩
    have e2 : decide ((readB T).2 = 0) = decide ((y.toNat : Int) = 0) := by
      congr 1; exact propext (hturn.trans e1)
    rw [e2]; cases decide ((y.toNat : Int) = 0) <;> rfl
  have lz0 : (readB t).2 ≠ 0 → decide (((readB t).1.length : Int) = 0) = true := fun e => decide_eq_true (by rw [hnone2 e]; rfl)
  have lx0 : (readB T).2 ≠ 0 → decide (((readB T).1.length : Int) = 0) = true := fun e => decide_eq_true (by rw [hnone e]; rfl)
  have lnx := es_ln (h' := h12) ex
  have lny := es_ln (h' := h12) ey
  have lnz := es_ln (h' := h12) ez
  by_cases g0 : (readB T).2 = 0
  · have dg := decide_eq_true g0
    rw [dg] at eb
    by_cases i0 : (readB t).2 = 0
    · have hm := hmade i0
      repeat' (first
        | refine St.h ?_
        | simp (disch := first | omega | (simp only [lnv]; omega)) only [wlk, ↓get_put', Nat.reduceEqDiff, Nat.reduceLT, ↓reduceIte, Int.reduceToNat, Nat.reducePow, Nat.min_eq_left, Nat.reduceAdd, Nat.reduceMul, Int.reduceAdd, Int.reduceSub, Int.reduceNeg, Int.reduceMul, Int.reduceEq, Int.reduceLT, Int.reduceLE, Nat.reduceSub, Int.reduceNatCast, Nat.reduceLeDiff, dg, eb, i0, lnx, lny, lnz, List.length_nil, hm]
        | (with_reducible (first | apply cd_split | apply gd_split)) <;> (intro hc; (try simp only [hcn] at hc); (try simp only [hc]); (try simp only [hcl] at hc); try omega))
      all_goals (subst hQ; rfl)
    · have di := decide_eq_false i0
      have lz := lz0 i0
      repeat' (first
        | refine St.h ?_
        | simp (disch := first | omega | (simp only [lnv]; omega)) only [wlk, ↓get_put', Nat.reduceEqDiff, Nat.reduceLT, ↓reduceIte, Int.reduceToNat, Nat.reducePow, Nat.min_eq_left, Nat.reduceAdd, Nat.reduceMul, Int.reduceAdd, Int.reduceSub, Int.reduceNeg, Int.reduceMul, Int.reduceEq, Int.reduceLT, Int.reduceLE, Nat.reduceSub, Int.reduceNatCast, Nat.reduceLeDiff, dg, eb, di, lz, lnx, lny, lnz, List.length_nil]
        | (with_reducible (first | apply cd_split | apply gd_split)) <;> (intro hc; (try simp only [hcn] at hc); (try simp only [hc]); (try simp only [hcl] at hc); try omega))
      all_goals (subst hQ; rfl)
  · have dg := decide_eq_false g0
    have lx := lx0 g0
    rw [dg] at eb
    by_cases i0 : (readB t).2 = 0
    · have hm := hmade i0
      repeat' (first
        | refine St.h ?_
        | simp (disch := first | omega | (simp only [lnv]; omega)) only [wlk, ↓get_put', Nat.reduceEqDiff, Nat.reduceLT, ↓reduceIte, Int.reduceToNat, Nat.reducePow, Nat.min_eq_left, Nat.reduceAdd, Nat.reduceMul, Int.reduceAdd, Int.reduceSub, Int.reduceNeg, Int.reduceMul, Int.reduceEq, Int.reduceLT, Int.reduceLE, Nat.reduceSub, Int.reduceNatCast, Nat.reduceLeDiff, dg, eb, lx, i0, lnx, lny, lnz, List.length_nil, hm]
        | (with_reducible (first | apply cd_split | apply gd_split)) <;> (intro hc; (try simp only [hcn] at hc); (try simp only [hc]); (try simp only [hcl] at hc); try omega))
      all_goals (subst hQ; rfl)
    · have di := decide_eq_false i0
      have lz := lz0 i0
      repeat' (first
        | refine St.h ?_
        | simp (disch := first | omega | (simp only [lnv]; omega)) only [wlk, ↓get_put', Nat.reduceEqDiff, Nat.reduceLT, ↓reduceIte, Int.reduceToNat, Nat.reducePow, Nat.min_eq_left, Nat.reduceAdd, Nat.reduceMul, Int.reduceAdd, Int.reduceSub, Int.reduceNeg, Int.reduceMul, Int.reduceEq, Int.reduceLT, Int.reduceLE, Nat.reduceSub, Int.reduceNatCast, Nat.reduceLeDiff, dg, eb, lx, di, lz, lnx, lny, lnz, List.length_nil]
        | (with_reducible (first | apply cd_split | apply gd_split)) <;> (intro hc; (try simp only [hcn] at hc); (try simp only [hc]); (try simp only [hcl] at hc); try omega))
      all_goals (subst hQ; rfl)
end Go.Proofs.Ytjlhfoadabkahaa

set_option linter.all false
namespace Go.Ev
open Go Go.RowKit Go.WideShapes Go.ChangeShapes Go.ChangeAt Go.Deep
section
variable {H' : Type} {enc : TypeId × Value → H'} {P : Program}
theorem flat_of {W : World} {t : TypeId} {fs : Array Field} {fuel : Nat} {cs : List Value} {x : DataW H' × List MemPlace} (ut : P.underlying t = some (.struct fs)) (hd : DataW.trod enc P W 0 (fun _ => true) true fuel t cs = some x) :
    cs.length = P.cellsOf t ∧ ∀ (i : Nat) f, fs.toList[i]? = some f → ∃ n y, DataW.trod enc P W 0 (fun _ => true) true n f.type ((cs.drop f.offset).take (P.cellsOf f.type)) = some y := by
  cases fuel with
  | zero => simp [DataW.trod] at hd
  | succ n =>
    unfold DataW.trod at hd
    rw [ut] at hd
    simp only at hd
    split at hd
    · rename_i hl
      refine ⟨hl, fun i f hf => ?_⟩
      rw [Option.map_eq_some_iff] at hd
      obtain ⟨xs, hx, _⟩ := hd
      have := mapM_some_get hx i f hf
      have hlen := mapM_some_length hx
      have hi : i < xs.length := by rw [hlen]; exact (List.getElem?_eq_some_iff.1 hf).1
      exact ⟨n, xs[i], by rw [this]; simp⟩
    · cases hd
structure EntF (P : Program) (t : TypeId) (fs : Array Field) : Prop where
  ut : P.underlying t = some (.struct fs)
  sz : P.cellsOf t = 4
  f0 : ∃ f, fs.toList[0]? = some f ∧ f.offset = 0 ∧ P.cellsOf f.type = 1 ∧ P.underlying f.type = some .string
  f1 : ∃ f, fs.toList[1]? = some f ∧ f.offset = 1 ∧ P.cellsOf f.type = 1 ∧ P.underlying f.type = some (.int .i64)
  f2 : ∃ f, fs.toList[2]? = some f ∧ f.offset = 2 ∧ P.cellsOf f.type = 1 ∧ P.underlying f.type = some .bool
  f3 : ∃ f, fs.toList[3]? = some f ∧ f.offset = 3 ∧ P.cellsOf f.type = 1 ∧ P.underlying f.type = some .string
/-- an entry's cells -/
def entV (k : ByteArray) (n : Int) (d : Bool) (v : ByteArray) : List Value := [.string k, .int .i64 n, .bool d, .string v]
theorem ent_cells {W : World} {t : TypeId} {fs : Array Field} {fuel : Nat} {cs : List Value} {x : DataW H' × List MemPlace} (F : EntF P t fs) (hd : DataW.trod enc P W 0 (fun _ => true) true fuel t cs = some x) :
    ∃ k n d v, cs = entV k n d v ∧ k.size ≤ maxLen ∧ v.size ≤ maxLen ∧ (Lit.int .i64 n).wf = true := by
  obtain ⟨hl, hf⟩ := flat_of F.ut hd
  rw [F.sz] at hl
  obtain ⟨f0, g0, o0, c0, u0⟩ := F.f0
  obtain ⟨f1, g1, o1, c1, u1⟩ := F.f1
  obtain ⟨f2, g2, o2, c2, u2⟩ := F.f2
  obtain ⟨f3, g3, o3, c3, u3⟩ := F.f3
  match cs, hl with
  | [a, b, c, d], _ =>
    obtain ⟨_, _, h0⟩ := hf 0 f0 g0
    obtain ⟨_, _, h1⟩ := hf 1 f1 g1
    obtain ⟨_, _, h2⟩ := hf 2 f2 g2
    obtain ⟨_, _, h3⟩ := hf 3 f3 g3
    rw [o0, c0] at h0
    rw [o1, c1] at h1
    rw [o2, c2] at h2
    rw [o3, c3] at h3
    obtain ⟨k, e0, _, z0⟩ := DataW.trod_string u0 h0
    obtain ⟨n, e1, _, z1⟩ := DataW.trod_int u1 h1
    obtain ⟨q, e2, _⟩ := DataW.trod_bool u2 h2
    obtain ⟨v, e3, _, z3⟩ := DataW.trod_string u3 h3
    simp at e0 e1 e2 e3
    exact ⟨k, n, q, v, by rw [e0, e1, e2, e3]; rfl, z0, z3, z1⟩
/-- a row of entries -/
theorem es_of {W : World} {h : H} (s : Start W h) (h0 : 0 < W.heap.size) {t e : TypeId} {fs : Array Field} {fuel : Nat} {cs : List Value} {x : DataW H' × List MemPlace} (ht : P.underlying t = some (.slice e)) (F : EntF P e fs)
    (hd : DataW.trod enc P W 0 (fun _ => true) true fuel t cs = some x) : ∃ sv L, cs = [sv] ∧ Es h (absV W sv) L ∧ L.length ≤ 9223372036854775807 ∧ ∀ e ∈ L, (e.key.length ≤ 9223372036854775807 ∧ e.val.length ≤ 9223372036854775807) ∧ -9223372036854775808 ≤ e.seq ∧ e.seq ≤ 9223372036854775807 := by
  rcases open_slice ht hd with ⟨rfl, _⟩ | ⟨a, len, cap, m, n, D, Pl, rfl, hb, hl, hm, hmm, _, hx⟩
  · exact ⟨_, [], rfl, .inl ⟨rfl, rfl⟩, by simp, fun e he => by cases he⟩
  simp only [if_true] at hmm
  rw [F.sz] at hx
  have hx' : ∀ i, i < len → ∃ k n q u, (∀ d y, (entV k n q u)[d]? = some y → W.cell? ⟨a.block, a.off + i * 4 + d, none⟩ = some y) ∧ (0 < len → a.spot = none) ∧ k.size ≤ maxLen ∧ u.size ≤ maxLen ∧ (Lit.int .i64 n).wf = true := by
    intro i hi
    obtain ⟨cs', h1, h2⟩ := hx i (by omega)
    obtain ⟨k, n, q, u, rfl, z1, z2, z3⟩ := ent_cells F h2
    obtain ⟨_, _, h3⟩ := World.cells?_some h1
    refine ⟨k, n, q, u, fun d y hy => ?_, fun _ => ?_, z1, z2, z3⟩
    · have hd : d < 4 := by have := (List.getElem?_eq_some_iff.1 hy).1; exact this
      have h4 := h3 d hd
      rw [hy] at h4
      have h5 := cell_add h4
      have e1 : (a.add (i * 4)).block = a.block := by unfold Addr.add; split <;> rfl
      have e2 : (a.add (i * 4)).off = a.off + i * 4 := by
        unfold Addr.add; split
        · rename_i hz; rw [hz]; rfl
        · rfl
      rw [e1, e2] at h5
      exact h5
    · have hlen : 0 < len := by omega
      obtain ⟨cs0, g1, g2⟩ := hx 0 (by omega)
      obtain ⟨k0, n0, q0, u0, rfl, _⟩ := ent_cells F g2
      obtain ⟨_, _, g3⟩ := World.cells?_some g1
      have g4 := g3 0 (by omega)
      have g5 := World.cell?_spot g4
      unfold Addr.add at g5
      simpa using g5
  obtain ⟨E, hE⟩ := choose_lt (α := ByteArray × Int × Bool × ByteArray) (p := fun i r => (∀ d y, (entV r.1 r.2.1 r.2.2.1 r.2.2.2)[d]? = some y → W.cell? ⟨a.block, a.off + i * 4 + d, none⟩ = some y) ∧ (0 < len → a.spot = none) ∧ r.1.size ≤ maxLen ∧ r.2.2.2.size ≤ maxLen ∧ (Lit.int .i64 r.2.1).wf = true) (fun i hi => by
    obtain ⟨k, n, q, u, h⟩ := hx' i hi
    exact ⟨(k, n, q, u), h⟩)
  let G : Nat → Ent := fun i => ⟨(E i).1.data.toList, (E i).2.1, (E i).2.2.1, (E i).2.2.2.data.toList⟩
  have hL : ((List.range len).map G).length = len := by simp
  refine ⟨_, (List.range len).map G, rfl, ?_, by rw [hL]; exact maxLen_le (by omega), fun e he => ?_⟩
  · obtain ⟨b, off, spot⟩ := a
    cases len with
    | zero =>
      have e : absV W (.slice (some ⟨b, off, spot⟩) 0 cap) = .l (nb 0) 0 0 0 0 none := by unfold absV; simp only [if_pos h0]
      rw [e]
      exact .inr ⟨nb 0, 0, 0, 0, none, rfl, by simp, (s.blk 0 h0).1, fun hne => absurd rfl hne, fun i v hv => by simp at hv⟩
    | succ n =>
      have hs' : spot = none := (hE 0 (by omega)).2.1 (by omega)
      subst hs'
      have hcell : ∀ i, i < n + 1 → ∀ d y, (entV (E i).1 (E i).2.1 (E i).2.2.1 (E i).2.2.2)[d]? = some y → b < W.heap.size ∧ off + i * 4 + d < csz W b ∧ (∃ blk, h.heap.get (nb b) = some blk ∧ blk.min ≤ 0) ∧ Ev.cell h (nb b) 0 (off + i * 4 + d) = some (absV W y) :=
        fun i hi d y hy => s.cell ((hE i hi).1 d y hy)
      obtain ⟨d1, d2, d3, d4⟩ := hcell n (by omega) 3 _ rfl
      have e : absV W (.slice (some ⟨b, off, none⟩) (n + 1) cap) = .l (nb b) 0 off (n + 1) (csz W b) (some cap) := by unfold absV; simp only [if_pos (⟨d1, hl, Nat.lt_of_le_of_lt hm maxLen_lt⟩ : b < W.heap.size ∧ n + 1 ≤ cap ∧ cap < 18446744073709551616)]
      rw [e]
      refine .inr ⟨nb b, 0, off, csz W b, some cap, by rw [hL], by rw [hL]; omega, (s.blk b d1).1, fun _ => d3, fun j v hv => ?_⟩
      have hj : j < (((List.range (n + 1)).map G).flatMap entC).length := (List.getElem?_eq_some_iff.1 hv).1
      rw [fm_len entC_len, hL] at hj
      obtain ⟨i, d, rfl, hd⟩ : ∃ i d, j = i * 4 + d ∧ d < 4 := ⟨j / 4, j % 4, by omega, by omega⟩
      have hi : i < n + 1 := by omega
      rw [fm_get entC_len (by rw [hL]; exact hi) hd] at hv
      have hG : ((List.range (n + 1)).map G).getD i default = G i := by simp [List.getD, hi]
      rw [hG] at hv
      rw [← Nat.add_assoc]
      match d, hd with
      | 0, _ => have := (hcell i hi 0 _ rfl).2.2.2; rw [this, absV_str]; exact hv
      | 1, _ => exact (hcell i hi 1 _ rfl).2.2.2.trans hv
      | 2, _ => exact (hcell i hi 2 _ rfl).2.2.2.trans hv
      | 3, _ => have := (hcell i hi 3 _ rfl).2.2.2; rw [this, absV_str]; exact hv
  · obtain ⟨i, hi, rfl⟩ := List.mem_map.1 he
    rw [List.mem_range] at hi
    obtain ⟨_, _, z1, z2, z3⟩ := hE i hi
    exact ⟨⟨str_len z1, str_len z2⟩, wf_i64 z3⟩
structure WriF (P : Program) (t : TypeId) (fs : Array Field) : Prop where
  ut : P.underlying t = some (.struct fs)
  sz : P.cellsOf t = 3
  f0 : ∃ f, fs.toList[0]? = some f ∧ f.offset = 0 ∧ P.cellsOf f.type = 1 ∧ P.underlying f.type = some .string
  f1 : ∃ f, fs.toList[1]? = some f ∧ f.offset = 1 ∧ P.cellsOf f.type = 1 ∧ P.underlying f.type = some .bool
  f2 : ∃ f, fs.toList[2]? = some f ∧ f.offset = 2 ∧ P.cellsOf f.type = 1 ∧ P.underlying f.type = some .string
end
end Go.Ev

namespace Go.Proofs.Ytjlhfoadabkahaa.blockBack
open Go Go.Ev Go.ChangeShapes Go.WideShapes Go.ChangeAt Go.RowKit Go.ChangeMaps
set_option linter.all false
theorem own : ownKnob Try.prog.godebug = none := by kernel_rfl
theorem laid : laidOutB Try.prog = true := by kernel_rfl
theorem heap_pos {W : World} (h : W.ShapedOpen Try.prog) : 0 < W.heap.size := by
  obtain ⟨o, _, h1, _⟩ := h.2 0 (of_decide_eq_true (by kernel_rfl)) (of_decide_eq_true (by kernel_rfl))
  exact (Array.getElem?_eq_some_iff.1 h1).1
set_option maxRecDepth 100000 in
theorem isEntF : ∃ fs, EntF Try.prog 70 fs := ⟨_, (EntF.mk Try.underlying70 (by kernel_rfl) ⟨_, rfl, rfl, by kernel_rfl, Try.underlying9⟩ ⟨_, rfl, rfl, by kernel_rfl, Try.underlying3⟩ ⟨_, rfl, rfl, by kernel_rfl, Try.underlying4⟩ ⟨_, rfl, rfl, by kernel_rfl, Try.underlying9⟩)⟩
set_option maxRecDepth 100000 in
theorem run {H : Type} {enc : TypeId × Value → H} (W : World) (base : Nat) (args : Array Value) (ds : List (DataW H)) (p : List MemPlace) (hval : ∀ (j : Nat) t v, Try.f9.params[j]? = some t → args[j]? = some v → Value.okWide Try.prog W .any base t v) (hopen : W.ShapedOpen Try.prog)
    (hA : DataW.TrodAll enc Try.prog W 0 (fun _ => true) true Try.f9.params.toList args.toList ds p) : Calls Try.prog 9 args W fun e w' => e = .returned (.bool true) ∧ Below W.heap.size W w' := by
  rw [Try.params9] at hA hval
  obtain ⟨fsEntF, eF⟩ := isEntF
  obtain ⟨v0, vs0, d0, ds0, p0, q0, hargs, rfl, rfl, h0, r0⟩ := trodAll_cons hA
  obtain ⟨v1, vs1, d1, ds1, p1, q1, rfl, rfl, rfl, h1, r1⟩ := trodAll_cons r0
  obtain ⟨v2, vs2, d2, ds2, p2, q2, rfl, rfl, rfl, h2, r2⟩ := trodAll_cons r1
  obtain ⟨rfl, rfl, rfl⟩ := trodAll_nil r2
  obtain rfl : args = #[v0, v1, v2] := by cases args; simp_all
  obtain ⟨h, s1, s2⟩ := Go.Ev.start W
  have s : Go.Ev.Start W h := ⟨s1, s2⟩
  obtain ⟨x0, y0, z0, rfl⟩ := okWide_slice Try.underlying53 (hval 0 53 v0 rfl rfl)
  obtain ⟨fu0, hfu0⟩ := h0
  obtain ⟨u0, L0, e0, m0, l0, k0⟩ := es_of s (heap_pos hopen) Try.underlying53 eF hfu0
  obtain rfl := (List.cons.inj (show [Value.slice x0 y0 z0] = [u0] from e0)).1
  obtain ⟨a1, rfl, rfl, rfl, w1⟩ := open_int Try.underlying63 (hval 1 63 v1 rfl rfl) h1
  obtain ⟨n1, b1, rfl⟩ := u16_nat w1
  obtain ⟨a2, rfl, rfl, rfl, w2⟩ := open_int Try.underlying5 (hval 2 5 v2 rfl rfl) h2
  obtain ⟨n2, rfl⟩ := u8_byte w2
  exact calls_true s (vs := [absV W (.slice x0 y0 z0), .i .u16 (n1 : Int), .i .u8 (n2.toNat : Int)]) ⟨absV_rel W _, rfl, rfl, trivial⟩ (blockBack_ok m0 l0 b1 s1.flo)
set_option maxRecDepth 100000 in
theorem lifted (os : Os) (started : os.Started) (H : Type) (enc : TypeId × Value → H) :
    ReturnsInHanded {} Try.checked os 9 .any (Rows.blockBackSpec.pre6 enc Try.prog Try.f9 Rows.blockBackRow.domain false) (Rows.blockBackSpec.post enc Try.prog Try.f9 false true false false) :=
  law_lifted (C := Try.checked) own started (by kernel_rfl) Try.func9
    (ChangeSpec.witness6 (enc := enc) (C := Try.checked) false ⟨#[], #[.slice none 0 0, .int .u16 0, .int .u8 0], []⟩ 8 (by kernel_rfl) (by kernel_rfl) (by kernel_rfl) (by kernel_rfl))
    rfl (fun ds hd => by rw [Try.params9] at hd; match ds, hd with | [d1, d2, d3], _ => rfl) laid (by kernel_rfl) (by kernel_rfl) Try.underlying4 (fun W base args ds p hv ho hA => run W base args ds p hv ho hA)
theorem over : Rows.blockBackRow.holds Try.pinned (OpenSpec.ofChange Rows.blockBackSpec) :=
  OpenClaim.holds_of_wide 9 Try.f9 rfl rfl rfl rfl rfl rfl rfl ⟨rfl, rfl, rfl, rfl, rfl⟩ rfl rfl rfl rfl rfl (by kernel_rfl) Try.func9 (by kernel_rfl)
    (of_decide_eq_true (by kernel_rfl)) (by unfold Func.isWrapper; first | (rw [if_pos (by decide +kernel)]; kernel_rfl) | (rw [if_neg (by decide +kernel)]; exact ⟨rfl, rfl⟩))
    (fun os started H enc _ => lifted os started H enc)
/-- THE STATEMENT -/
theorem proved : Rows.BlockBackSaid :=
  over
end Go.Proofs.Ytjlhfoadabkahaa.blockBack
