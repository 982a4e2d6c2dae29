/- Texts of ours, without what this claim does not use: NBkP JrSv NSv1 NSvP Wh NTbA NTbB JrTb NTb1 NTbO NTbD NTbE NTbG NTbK NTbL. No condition. -/
import Derived.Test.YtiingkpdodbldaaPkTableMany4
import Derived.Test.YtiingkpdodbldaaProg
import Derived.KernelRfl
set_option maxRecDepth 100000
set_option maxHeartbeats 8000000
set_option linter.all false
namespace Go.Proofs.Ytiingkpdodbldaa
open Go Go.Ev
theorem bshared_ok {h : H} {a b : List UInt8} (ha : a.length ≤ 1000000) (hb : b.length ≤ 1000000) : FnOk Try.prog 73 [sv a, sv b] h fun y h' => y = .i .i64 (sharedB a b : Int) ∧ h' = h := by
  refine fn_go c73 (by intro hb; cases hb) (by simp) (by simp) fun Q hQ => ?_
  simp only [slotsF, Nat.reduceAdd]
  repeat' (first
    | refine St.h ?_
    | simp (disch := first | omega | (simp only [lnv]; omega)) only [wlk, ↓get_put', ↓reduceIte, seval]
    | (with_reducible (first | apply cd_split | apply gd_split)) <;> (intro hc; (try simp only [hcn] at hc); (try simp only [hc]); (try simp only [hcl] at hc); try omega))
  have hmn : (min (a.length : Int) (b.length : Int)) = ((min a.length b.length : Nat) : Int) := by omega
  refine Ok.lp (fun m t g => ∃ n : Nat, m = a.length - n ∧ h = g ∧ n ≤ a.length ∧ n ≤ b.length ∧ (∀ i, i < n → a.getD i 0 = b.getD i 0) ∧ get 0 t = sv a ∧ get 1 t = sv b ∧ get 5 t = .i .i64 ((min a.length b.length : Nat) : Int) ∧ get 6 t = .i .i64 (n : Int)) a.length ?_ ?_
  · simp (disch := first | omega | (simp only [lnv]; omega)) only [wlk, ↓get_put', ↓reduceIte, seval, hmn]
    refine ⟨0, by omega, trivial, by omega, by omega, fun i hi => by omega, ?_⟩
    repeat' (first | trivial | rfl | refine And.intro ?_ ?_)
  rintro I hI m t g ⟨n, rfl, rfl, h1, h2, he, f0, f1, f5, f6⟩
  have da : n < a.length → (a.getD n 0).toNat < 256 := fun _ => (a.getD n 0).toNat_lt
  have fin : (n = a.length ∨ n = b.length ∨ a.getD n 0 ≠ b.getD n 0) → sharedB a b = n := sharedB_at h1 h2 he
  repeat' (first
    | refine St.h ?_
    | simp (disch := first | omega | (simp only [lnv]; omega)) only [wlk, ↓get_put', ↓reduceIte, seval, f0, f1, f5, f6, Int.toNat_natCast]
    | (with_reducible (first | apply cd_split | apply gd_split)) <;> (intro hc; (try simp only [hcn] at hc); (try simp only [hc]); (try simp only [hcl] at hc); try omega))
  · refine lp_next hI (a.length - (n + 1)) (by omega) ⟨n + 1, rfl, rfl, by omega, by omega, fun i hi => ?_, ?_, ?_, ?_, ?_⟩
    · by_cases e : i = n
      · subst e; exact UInt8.toNat_inj.1 (by omega)
      · exact he i (by omega)
    · simp (disch := first | omega | (simp only [lnv]; omega)) only [wlk, ↓get_put', ↓reduceIte, seval, f0]
    · simp (disch := first | omega | (simp only [lnv]; omega)) only [wlk, ↓get_put', ↓reduceIte, seval, f1]
    · simp (disch := first | omega | (simp only [lnv]; omega)) only [wlk, ↓get_put', ↓reduceIte, seval, f5]
    · simp (disch := first | omega | (simp only [lnv]; omega)) only [wlk, ↓get_put', ↓reduceIte, seval]; rfl
  · subst hQ
    exact ⟨by rw [fin (.inr (.inr fun e => by have := congrArg UInt8.toNat e; omega))], rfl⟩
  · subst hQ
    exact ⟨by rw [fin (by omega)], rfl⟩
theorem drop_bytes {e : Ent} (hi : isE e = true) : (bytesE e).drop (textB e.key).length = tailB e := by
  unfold bytesE; rw [hi]; simp
theorem bytesE_full {e : Ent} (hi : isE e = true) : bytesE e = textB e.key ++ tailB e := by unfold bytesE; rw [hi]; rfl
theorem lay_ok {h : H} {v : V} {L : List Ent} (hL : Es h v L) (hl : L.length ≤ 10000) (ha : L.all isE = true) (hf : B.val h.floor ≤ B.val h.next) : FnOk Try.prog 50 [v] h fun y h' => y = sv (bodyB [] L) ∧ Stay nowhere h h' := by
  refine fn_go c50 (by intro hb; cases hb) (by simp) (by simp) fun Q hQ => ?_
  simp only [slotsF, Nat.reduceAdd]
  repeat' (first
    | refine St.h ?_
    | simp (disch := first | omega | (simp only [lnv]; omega)) only [wlk, ↓get_put', ↓reduceIte, seval]
    | (with_reducible (first | apply cd_split | apply gd_split)) <;> (intro hc; (try simp only [hcn] at hc); (try simp only [hc]); (try simp only [hcl] at hc); try omega))
  refine AL.ownE (by simp) hf fun h1 s1 n1 o1 => ?_
  have hf1 := s1.fl hf
  have hL1 := hL.grow s1
  have sb : Sb h1 (B.val h.next) 58 5 h.next (fun i => i = h.next) [] :=
    ⟨⟨.p0, .l0, o1, .inl rfl, Buf.nil _ _ _, fun i hi => absurd hi (by rintro ⟨_, _, _, _, _, e⟩; cases e), by rintro ⟨_, _, _, _, _, e⟩; cases e⟩, rfl, fun i hi => by rw [hi]; exact ⟨Nat.le_refl _, by omega⟩⟩
  have hbl := bodyB_len (p := []) ha
  repeat' (first
    | refine St.h ?_
    | simp (disch := first | omega | (simp only [lnv]; omega)) only [wlk, ↓get_put', ↓reduceIte, seval, hL.ln]
    | (with_reducible (first | apply cd_split | apply gd_split)) <;> (intro hc; (try simp only [hcn] at hc); (try simp only [hc]); (try simp only [hcl] at hc); try omega))
  refine Ok.lp (fun m t g => ∃ (j : Nat) (p out : List UInt8) (U : B → Prop), m = L.length - j ∧ j ≤ L.length ∧ p.length ≤ 13 ∧ bodyB [] L = out ++ bodyB p (L.drop j) ∧ Stay nowhere h g ∧ Sb g (B.val h.next) 58 5 h.next U out ∧ get 0 t = v ∧ get 3 t = .p h.next 0 0 2 ∧ get 4 t = sv p ∧ get 8 t = v ∧ get 9 t = .i .i64 (L.length : Int) ∧ get 10 t = .i .i64 (j : Int)) L.length ?_ ?_
  · simp (disch := first | omega | (simp only [lnv]; omega)) only [wlk, ↓get_put', ↓reduceIte, seval]
    refine ⟨0, [], [], _, by omega, by omega, by simp, rfl, s1, sb, ?_⟩
    repeat' (first | trivial | rfl | refine And.intro ?_ ?_)
  rintro I hI m t g ⟨j, p, out, U, rfl, hj, hp, hb, st, sbg, f0, f3, f4, f8, f9, f10⟩
  have hfg := st.fl hf
  have hLg := hL.grow st
  by_cases hjl : j < L.length
  case neg =>
    obtain rfl : j = L.length := by omega
    have hb : bodyB [] L = out := by rw [hb, List.drop_length]; simp [bodyB]
    repeat' (first
      | refine St.h ?_
      | simp (disch := first | omega | (simp only [lnv]; omega)) only [wlk, ↓get_put', ↓reduceIte, seval, f3, f9, f10]
      | (with_reducible (first | apply cd_split | apply gd_split)) <;> (intro hc; (try simp only [hcn] at hc); (try simp only [hc]); (try simp only [hcl] at hc); try omega))
    refine CL.mk (string_ok sbg (by rw [← hb]; omega)) ?_
    rintro _ g2 ⟨rfl, s2⟩
    repeat' (first
      | refine St.h ?_
      | simp (disch := first | omega | (simp only [lnv]; omega)) only [wlk, ↓get_put', ↓reduceIte, seval]
      | (with_reducible (first | apply cd_split | apply gd_split)) <;> (intro hc; (try simp only [hcn] at hc); (try simp only [hc]); (try simp only [hcl] at hc); try omega))
    subst hQ
    exact ⟨by rw [hb], st.past' s2 fun i hi => (sbg.lo i hi).1⟩
  have hi := getD_all ha hjl
  rw [drop_ent hjl] at hb
  generalize he : L.getD j default = e at hi hb
  obtain ⟨k1, k2, k3, k4⟩ := isE_len hi
  have hsl := sharedB_le e.key p
  have hsc := sharedB_comm p e.key
  have hlen : (bodyB [] L).length ≤ 800000 := by omega
  have hb2 : bodyB p (e :: L.drop (j + 1)) = oneB p e ++ bodyB e.key (L.drop (j + 1)) := rfl
  rw [hb2] at hb
  have hol : out.length + (oneB p e).length ≤ 800000 := by
    rw [hb] at hlen; simp only [List.length_append] at hlen; omega
  have hone : (oneB p e).length = (numB (sharedB e.key p)).length + (textB (e.key.drop (sharedB e.key p))).length + (tailB e).length := by unfold oneB; simp only [List.length_append]
  have l1 := textB_len e.key (by omega)
  have l2 := tailB_len hi
  have hbl2 : (bytesE e).length = (textB e.key).length + (tailB e).length := by rw [bytesE_full hi, List.length_append]
  repeat' (first
    | refine St.h ?_
    | simp (disch := first | omega | (simp only [lnv]; omega)) only [wlk, ↓get_put', ↓reduceIte, seval, f0, f3, f4, f8, f9, f10, hL.ix, hLg.la, he, Int.toNat_natCast]
    | (with_reducible (first | apply cd_split | apply gd_split)) <;> (intro hc; (try simp only [hcn] at hc); (try simp only [hc]); (try simp only [hcl] at hc); try omega))
  refine AL.own (by simp) hfg fun g1 t1 m1 o1 => ?_
  have hfg1 := t1.fl hfg
  repeat' (first
    | refine St.h ?_
    | simp (disch := first | omega | (simp only [lnv]; omega)) only [wlk, ↓get_put', ↓reduceIte, seval, f0, f3, f4, f8, f9, f10]
    | (with_reducible (first | apply cd_split | apply gd_split)) <;> (intro hc; (try simp only [hcn] at hc); (try simp only [hc]); (try simp only [hcl] at hc); try omega))
  refine ST.all o1 rfl rfl (by simp) (by simp) fun g2 o2 t2 => ?_
  have t12 : Stay nowhere g g2 := t1.past' t2 fun q hq => by rw [hq]; exact Nat.le_refl _
  have hfg2 := t12.fl hfg
  have sb2 := sbg.stay t12 fun _ _ h => h
  have hnU : ¬ U g.next := fun hu => absurd (sbg.lo _ hu).2 (Nat.lt_irrefl _)
  repeat' (first
    | refine St.h ?_
    | simp (disch := first | omega | (simp only [lnv]; omega)) only [wlk, ↓get_put', ↓reduceIte, seval, f0, f3, f4, f8, f9, f10, o2.row.l1]
    | (with_reducible (first | apply cd_split | apply gd_split)) <;> (intro hc; (try simp only [hcn] at hc); (try simp only [hc]); (try simp only [hcl] at hc); try omega))
  refine CL.pure (bshared_ok (by omega) (by omega)) ?_
  rw [hsc]
  repeat' (first
    | refine St.h ?_
    | simp (disch := first | omega | (simp only [lnv]; omega)) only [wlk, ↓get_put', ↓reduceIte, seval, f0, f3, f4, f8, f9, f10]
    | (with_reducible (first | apply cd_split | apply gd_split)) <;> (intro hc; (try simp only [hcn] at hc); (try simp only [hc]); (try simp only [hcl] at hc); try omega))
  refine CL.stay (num_ok (by omega) hfg2) fun g3 t3 => ?_
  have hfg3 := t3.fl hfg2
  have sb3 := sb2.stay t3 fun _ _ h => h
  have o3 := o2.stay t3 fun h => h
  repeat' (first
    | refine St.h ?_
    | simp (disch := first | omega | (simp only [lnv]; omega)) only [wlk, ↓get_put', ↓reduceIte, seval, f0, f3, f4, f8, f9, f10, Int.toNat_natCast]
    | (with_reducible (first | apply cd_split | apply gd_split)) <;> (intro hc; (try simp only [hcn] at hc); (try simp only [hc]); (try simp only [hcl] at hc); try omega))
  refine CL.mk (writeString_ok sb3 (by omega) hfg3) ?_
  rintro _ g4 ⟨U4, sb4, t4, hU4⟩
  have hfg4 := t4.fl hfg3
  have o4 := o3.stay t4 hnU
  have hn3 : B.val g.next < B.val g3.next := own_lt' o3
  have hnU4 : ¬ U4 g.next := fun hu => by
    rcases hU4 _ hu with h7 | h7
    · exact hnU h7
    · omega
  repeat' (first
    | refine St.h ?_
    | simp (disch := first | omega | (simp only [lnv]; omega)) only [wlk, ↓get_put', ↓reduceIte, seval, f0, f3, f4, f8, f9, f10, o4.row.l1, Int.toNat_natCast]
    | (with_reducible (first | apply cd_split | apply gd_split)) <;> (intro hc; (try simp only [hcn] at hc); (try simp only [hc]); (try simp only [hcl] at hc); try omega))
  refine CL.stay (text_ok (by rw [List.length_drop]; omega) hfg4) fun g5 t5 => ?_
  have hfg5 := t5.fl hfg4
  have sb5 := sb4.stay t5 fun _ _ h => h
  have o5 := o4.stay t5 fun h => h
  have hn5 : B.val g.next < B.val g5.next := own_lt' o5
  repeat' (first
    | refine St.h ?_
    | simp (disch := first | omega | (simp only [lnv]; omega)) only [wlk, ↓get_put', ↓reduceIte, seval, f0, f3, f4, f8, f9, f10]
    | (with_reducible (first | apply cd_split | apply gd_split)) <;> (intro hc; (try simp only [hcn] at hc); (try simp only [hc]); (try simp only [hcl] at hc); try omega))
  refine CL.mk (writeString_ok sb5 (by simp only [List.length_append]; omega) hfg5) ?_
  rintro _ g6 ⟨U6, sb6, t6, hU6⟩
  have hfg6 := t6.fl hfg5
  have o6 := o5.stay t6 hnU4
  have hnU6 : ¬ U6 g.next := fun hu => by
    rcases hU6 _ hu with h7 | h7
    · exact hnU4 h7
    · omega
  repeat' (first
    | refine St.h ?_
    | simp (disch := first | omega | (simp only [lnv]; omega)) only [wlk, ↓get_put', ↓reduceIte, seval, f0, f3, f4, f8, f9, f10, o6.row.ln]
    | (with_reducible (first | apply cd_split | apply gd_split)) <;> (intro hc; (try simp only [hcn] at hc); (try simp only [hc]); (try simp only [hcl] at hc); try omega))
  refine CL.stayU (bytes_ok (re_fl _)) fun g7 t7 => ?_
  have hfg7 := t7.fl hfg6
  have sb7 := sb6.stay t7 fun _ _ h => h
  have o7 := o6.stay t7 fun h => h
  repeat' (first
    | refine St.h ?_
    | simp (disch := first | omega | (simp only [lnv]; omega)) only [wlk, ↓get_put', ↓reduceIte, seval, f0, f3, f4, f8, f9, f10, o7.row.l1]
    | (with_reducible (first | apply cd_split | apply gd_split)) <;> (intro hc; (try simp only [hcn] at hc); (try simp only [hc]); (try simp only [hcl] at hc); try omega))
  refine CL.stay (text_ok (by omega) hfg7) fun g8 t8 => ?_
  have hfg8 := t8.fl hfg7
  have sb8 := sb7.stay t8 fun _ _ h => h
  have o8 := o7.stay t8 fun h => h
  have hn8 : B.val g.next < B.val g8.next := own_lt' o8
  have hdb := drop_bytes hi
  repeat' (first
    | refine St.h ?_
    | simp (disch := first | omega | (simp only [lnv]; omega)) only [wlk, ↓get_put', ↓reduceIte, seval, f0, f3, f4, f8, f9, f10, Int.toNat_natCast, hdb]
    | (with_reducible (first | apply cd_split | apply gd_split)) <;> (intro hc; (try simp only [hcn] at hc); (try simp only [hc]); (try simp only [hcl] at hc); try omega))
  refine CL.mk (writeString_ok sb8 (by simp only [List.length_append]; omega) hfg8) ?_
  rintro _ g9 ⟨U9, sb9, t9, hU9⟩
  have o9 := o8.stay t9 hnU6
  have a4 := ((st.trans t12).trans t3).past' t4 fun q hq => (sb3.lo q hq).1
  have a6 := (a4.trans t5).past' t6 fun q hq => (sb5.lo q hq).1
  have a9 := ((a6.trans t7).trans t8).past' t9 fun q hq => (sb8.lo q hq).1
  repeat' (first
    | refine St.h ?_
    | simp (disch := first | omega | (simp only [lnv]; omega)) only [wlk, ↓get_put', ↓reduceIte, seval, f0, f3, f4, f8, f9, f10, o9.row.l1]
    | (with_reducible (first | apply cd_split | apply gd_split)) <;> (intro hc; (try simp only [hcn] at hc); (try simp only [hc]); (try simp only [hcl] at hc); try omega))
  refine lp_next hI (L.length - (j + 1)) (by omega) ⟨j + 1, e.key, out ++ oneB p e, U9, rfl, by omega, k1, by rw [hb]; simp, a9, by unfold oneB; simpa using sb9, ?_, ?_, ?_, ?_, ?_, ?_⟩
  all_goals (simp (disch := first | omega | (simp only [lnv]; omega)) only [wlk, ↓get_put', ↓reduceIte, seval, f0, f3, f8, f9]; try rfl)
theorem bmake_ok {h : H} {v : V} {L : List Ent} (hL : Es h v L) (hl : L.length ≤ 10000) (hf : B.val h.floor ≤ B.val h.next) : FnOk Try.prog 22 [v] h fun y h' => y = .tu [sv (blkE L).1, .i .i64 (blkE L).2] ∧ Stay nowhere h h' := by
  refine fn_go c22 (by intro hb; cases hb) (by simp) (by simp) fun Q hQ => ?_
  simp only [slotsF, Nat.reduceAdd]
  by_cases h0 : L.length = 0
  · have : L = [] := List.eq_nil_of_length_eq_zero h0
    subst this
    repeat' (first
      | refine St.h ?_
      | simp (disch := first | omega | (simp only [lnv]; omega)) only [wlk, ↓get_put', ↓reduceIte, seval, hL.ln]
      | (with_reducible (first | apply cd_split | apply gd_split)) <;> (intro hc; (try simp only [hcn] at hc); (try simp only [hc]); (try simp only [hcl] at hc); try omega))
    subst hQ
    exact ⟨by rw [blkE_nil], Stay.refl _ _⟩
  have hd : ((L.length : Int) = 0) = False := eq_false (by omega)
  repeat' (first
    | refine St.h ?_
    | simp (disch := first | omega | (simp only [lnv]; omega)) only [wlk, ↓get_put', ↓reduceIte, seval, hL.ln, hd]
    | (with_reducible (first | apply cd_split | apply gd_split)) <;> (intro hc; (try simp only [hcn] at hc); (try simp only [hc]); (try simp only [hcl] at hc); try omega))
  refine Ok.lp (fun m t g => ∃ j : Nat, m = L.length - j ∧ j ≤ L.length ∧ (∀ i, i < j → isE (L.getD i default) = true) ∧ get 0 t = v ∧ get 9 t = v ∧ get 10 t = .i .i64 (L.length : Int) ∧ get 11 t = .i .i64 (j : Int) ∧ Stay nowhere h g) L.length ?_ ?_
  · simp (disch := first | omega | (simp only [lnv]; omega)) only [wlk, ↓get_put', ↓reduceIte, seval]
    exact ⟨0, by omega, by omega, fun i hi => by omega, trivial, trivial, trivial, rfl, Stay.refl _ _⟩
  rintro I hI m t g ⟨j, rfl, hj, he, f0, f9, f10, f11, st⟩
  have hfg := st.fl hf
  have hLg := hL.grow st
  by_cases hjl : j < L.length
  case neg =>
    obtain rfl : j = L.length := by omega
    have hall : L.all isE = true := all_ok he
    have hne : L ≠ [] := by intro e; subst e; simp at h0
    repeat' (first
      | refine St.h ?_
      | simp (disch := first | omega | (simp only [lnv]; omega)) only [wlk, ↓get_put', ↓reduceIte, seval, f0, f9, f10, f11]
      | (with_reducible (first | apply cd_split | apply gd_split)) <;> (intro hc; (try simp only [hcn] at hc); (try simp only [hc]); (try simp only [hcl] at hc); try omega))
    refine CL.stay (sorted_ok hLg (by omega) hfg) fun g1 t1 => ?_
    have hfg1 := t1.fl hfg
    have hL1 := hLg.grow t1
    cases hs : sortedE L with
    | false =>
      repeat' (first
        | refine St.h ?_
        | simp (disch := first | omega | (simp only [lnv]; omega)) only [wlk, ↓get_put', ↓reduceIte, seval]
        | (with_reducible (first | apply cd_split | apply gd_split)) <;> (intro hc; (try simp only [hcn] at hc); (try simp only [hc]); (try simp only [hcl] at hc); try omega))
      subst hQ
      exact ⟨by rw [blkE_un hall hne hs], st.trans t1⟩
    | true =>
      repeat' (first
        | refine St.h ?_
        | simp (disch := first | omega | (simp only [lnv]; omega)) only [wlk, ↓get_put', ↓reduceIte, seval, f0]
        | (with_reducible (first | apply cd_split | apply gd_split)) <;> (intro hc; (try simp only [hcn] at hc); (try simp only [hc]); (try simp only [hcl] at hc); try omega))
      refine CL.stay (lay_ok hL1 hl hall hfg1) fun g2 t2 => ?_
      have hfg2 := t2.fl hfg1
      have hbl := bodyB_len (p := []) hall
      repeat' (first
        | refine St.h ?_
        | simp (disch := first | omega | (simp only [lnv]; omega)) only [wlk, ↓get_put', ↓reduceIte, seval]
        | (with_reducible (first | apply cd_split | apply gd_split)) <;> (intro hc; (try simp only [hcn] at hc); (try simp only [hc]); (try simp only [hcl] at hc); try omega))
      refine CL.stay (seal_ok (by omega) hfg2) fun g3 t3 => ?_
      repeat' (first
        | refine St.h ?_
        | simp (disch := first | omega | (simp only [lnv]; omega)) only [wlk, ↓get_put', ↓reduceIte, seval]
        | (with_reducible (first | apply cd_split | apply gd_split)) <;> (intro hc; (try simp only [hcn] at hc); (try simp only [hc]); (try simp only [hcl] at hc); try omega))
      subst hQ
      exact ⟨by rw [blkE_ok hall hne hs], ((st.trans t1).trans t2).trans t3⟩
  repeat' (first
    | refine St.h ?_
    | simp (disch := first | omega | (simp only [lnv]; omega)) only [wlk, ↓get_put', ↓reduceIte, seval, f0, f9, f10, f11, hLg.ix, hLg.la, Int.toNat_natCast]
    | (with_reducible (first | apply cd_split | apply gd_split)) <;> (intro hc; (try simp only [hcn] at hc); (try simp only [hc]); (try simp only [hcl] at hc); try omega))
  refine AL.own (by simp) hfg fun g1 t1 m1 o1 => ?_
  have hfg1 := t1.fl hfg
  repeat' (first
    | refine St.h ?_
    | simp (disch := first | omega | (simp only [lnv]; omega)) only [wlk, ↓get_put', ↓reduceIte, seval, f0, f9, f10, f11]
    | (with_reducible (first | apply cd_split | apply gd_split)) <;> (intro hc; (try simp only [hcn] at hc); (try simp only [hc]); (try simp only [hcl] at hc); try omega))
  refine ST.all o1 rfl rfl (by simp) (by simp) fun g2 o2 t2 => ?_
  have t12 : Stay nowhere g g2 := t1.past' t2 fun q hq => by rw [hq]; exact Nat.le_refl _
  have hfg2 := t12.fl hfg
  repeat' (first
    | refine St.h ?_
    | simp (disch := first | omega | (simp only [lnv]; omega)) only [wlk, ↓get_put', ↓reduceIte, seval, f0, f9, f10, f11, o2.row.ln]
    | (with_reducible (first | apply cd_split | apply gd_split)) <;> (intro hc; (try simp only [hcn] at hc); (try simp only [hc]); (try simp only [hcl] at hc); try omega))
  refine CL.stay (is_ok hfg2) fun g3 t3 => ?_
  have s3 := (st.trans t12).trans t3
  cases hi : isE (L.getD j default) with
  | false =>
    repeat' (first
      | refine St.h ?_
      | simp (disch := first | omega | (simp only [lnv]; omega)) only [wlk, ↓get_put', ↓reduceIte, seval]
      | (with_reducible (first | apply cd_split | apply gd_split)) <;> (intro hc; (try simp only [hcn] at hc); (try simp only [hc]); (try simp only [hcl] at hc); try omega))
    subst hQ
    exact ⟨by rw [blkE_bad (all_at (by omega) hi)], s3⟩
  | true =>
    repeat' (first
      | refine St.h ?_
      | simp (disch := first | omega | (simp only [lnv]; omega)) only [wlk, ↓get_put', ↓reduceIte, seval, f0, f9, f10, f11]
      | (with_reducible (first | apply cd_split | apply gd_split)) <;> (intro hc; (try simp only [hcn] at hc); (try simp only [hc]); (try simp only [hcl] at hc); try omega))
    refine lp_next hI (L.length - (j + 1)) (by omega) ⟨j + 1, rfl, by omega, fun i h2 => ?_, ?_, ?_, ?_, ?_, s3⟩
    · by_cases e : i = j
      · subst e; exact hi
      · exact he i (by omega)
    all_goals (simp (disch := first | omega | (simp only [lnv]; omega)) only [wlk, ↓get_put', ↓reduceIte, seval, f0, f9, f10]; try rfl)
/-- what take makes of bytes behind a key: one entry that fits, or an error; and the entry that was laid -/
structure TakeR (p s : List UInt8) (r : Ent × Int × Int) : Prop where
  fit : r.2.2 = 0 → ∃ z : Nat, r.2.1 = (z : Int) ∧ 1 ≤ z ∧ z ≤ s.length ∧ isE r.1 = true
  laid : ∀ (e : Ent) (more : List UInt8), isE e = true → s = oneB p e ++ more → r = (e, ((oneB p e).length : Int), 0)
theorem TakeR.bad {p s : List UInt8} {r : Ent × Int × Int} (h : r.2.2 ≠ 0) (hs : ∀ (e : Ent) (more : List UInt8), isE e = true → s = oneB p e ++ more → False) : TakeR p s r :=
  ⟨fun e => absurd e h, fun e more hi hs' => (hs e more hi hs').elim⟩
section
variable {p : List UInt8} {e : Ent} (more : List UInt8)
theorem one_takeN (hi : isE e = true) : takeN (oneB p e ++ more) = ((sharedB e.key p : Int), ((numB (sharedB e.key p)).length : Int), 0) := by
  obtain ⟨k1, _⟩ := isE_len hi
  have hs := sharedB_le e.key p
  unfold oneB
  rw [List.append_assoc, List.append_assoc]
  exact takeN_numB (by omega) _
theorem one_takeT (hi : isE e = true) : takeT ((oneB p e ++ more).drop (numB (sharedB e.key p)).length) = (e.key.drop (sharedB e.key p), ((textB (e.key.drop (sharedB e.key p))).length : Int), 0) := by
  obtain ⟨k1, _⟩ := isE_len hi
  unfold oneB
  rw [List.append_assoc, List.append_assoc, List.drop_left]
  exact takeT_textB (by rw [List.length_drop]; omega)
theorem one_tail (hi : isE e = true) : (oneB p e ++ more).drop ((numB (sharedB e.key p)).length + (textB (e.key.drop (sharedB e.key p))).length) = tailB e ++ more := by
  unfold oneB
  rw [← List.length_append, List.append_assoc, List.drop_left]
theorem one_key : p.take (sharedB e.key p) ++ e.key.drop (sharedB e.key p) = e.key := by
  rw [← sharedB_take, List.take_append_drop]
theorem one_len (hi : isE e = true) : (oneB p e).length = (numB (sharedB e.key p)).length + (textB (e.key.drop (sharedB e.key p))).length + (tailB e).length := by
  unfold oneB; rw [List.length_append, List.length_append]
theorem one_read (hi : isE e = true) : readE (textB e.key ++ (tailB e ++ more).take 43) = (e, ((textB e.key).length : Int) + ((tailB e).length : Int), 0) := by
  have h := tailB_len hi
  have e1 : (tailB e ++ more).take 43 = tailB e ++ more.take (43 - (tailB e).length) := by
    rw [List.take_append, List.take_of_length_le h]
  rw [e1, ← List.append_assoc, ← bytesE_full hi, read_back hi, bytesE_full hi, List.length_append]
  push_cast; rfl
end
theorem btake_ok {h : H} {p s : List UInt8} (hs : s.length ≤ 10000) (hp : p.length ≤ 13) (hf : B.val h.floor ≤ B.val h.next) : FnOk Try.prog 81 [sv s, sv p] h fun y h' => (∃ r, y = triE r ∧ TakeR p s r) ∧ Stay nowhere h h' := by
  refine fn_go c81 (by intro hb; cases hb) (by simp) (by simp) fun Q hQ => ?_
  simp only [slotsF, Nat.reduceAdd]
  repeat' (first
    | refine St.h ?_
    | simp (disch := first | omega | (simp only [lnv]; omega)) only [wlk, ↓get_put', ↓reduceIte, seval]
    | (with_reducible (first | apply cd_split | apply gd_split)) <;> (intro hc; (try simp only [hcn] at hc); (try simp only [hc]); (try simp only [hcl] at hc); try omega))
  refine AL.own (by simp) hf fun h1 s1 n1 o1 => ?_
  have hf1 := s1.fl hf
  repeat' (first
    | refine St.h ?_
    | simp (disch := first | omega | (simp only [lnv]; omega)) only [wlk, ↓get_put', ↓reduceIte, seval]
    | (with_reducible (first | apply cd_split | apply gd_split)) <;> (intro hc; (try simp only [hcn] at hc); (try simp only [hc]); (try simp only [hcl] at hc); try omega))
  refine CL.pure (takeNum_ok (by omega)) ?_
  have hz : ∀ f : Int, triE (entZ, 0, f) = .tu [.a [sv [], .i .i64 0, .b false, sv []], .i .i64 0, .i .i64 f] := fun f => rfl
  rcases takeN_range s with hN' | ⟨k, i, hN, i1, i2, i3, i4⟩
  · obtain ⟨f, hN, hfn⟩ : ∃ f, takeN s = (0, 0, f) ∧ f ≠ 0 := by
      rcases hN' with h | h
      · exact ⟨_, h, by omega⟩
      · exact ⟨_, h, by omega⟩
    rw [hN]; unfold tri
    have hz' : (f = 0) = False := eq_false hfn
    repeat' (first
      | refine St.h ?_
      | simp (disch := first | omega | (simp only [lnv]; omega)) only [wlk, ↓get_put', ↓reduceIte, seval, hz']
      | (with_reducible (first | apply cd_split | apply gd_split)) <;> (intro hc; (try simp only [hcn] at hc); (try simp only [hc]); (try simp only [hcl] at hc); try omega))
    refine ST.all o1 rfl rfl (by simp) (by simp) fun g og sg => ?_
    repeat' (first
      | refine St.h ?_
      | simp (disch := first | omega | (simp only [lnv]; omega)) only [wlk, ↓get_put', ↓reduceIte, seval, og.ra4]
      | (with_reducible (first | apply cd_split | apply gd_split)) <;> (intro hc; (try simp only [hcn] at hc); (try simp only [hc]); (try simp only [hcl] at hc); try omega))
    subst hQ
    refine ⟨⟨(entZ, 0, f), rfl, TakeR.bad hfn fun e more hi hse => ?_⟩, s1.past' sg fun q hq => by rw [hq]; exact Nat.le_refl _⟩
    rw [hse, one_takeN more hi] at hN
    exact hfn (Prod.mk.inj (Prod.mk.inj hN).2).2.symm
  rw [hN]; unfold tri
  by_cases hk : k ≤ p.length
  case neg =>
    repeat' (first
      | refine St.h ?_
      | simp (disch := first | omega | (simp only [lnv]; omega)) only [wlk, ↓get_put', ↓reduceIte, seval]
      | (with_reducible (first | apply cd_split | apply gd_split)) <;> (intro hc; (try simp only [hcn] at hc); (try simp only [hc]); (try simp only [hcl] at hc); try omega))
    refine ST.all o1 rfl rfl (by simp) (by simp) fun g og sg => ?_
    repeat' (first
      | refine St.h ?_
      | simp (disch := first | omega | (simp only [lnv]; omega)) only [wlk, ↓get_put', ↓reduceIte, seval, og.ra4]
      | (with_reducible (first | apply cd_split | apply gd_split)) <;> (intro hc; (try simp only [hcn] at hc); (try simp only [hc]); (try simp only [hcl] at hc); try omega))
    subst hQ
    refine ⟨⟨(entZ, 0, 10), rfl, TakeR.bad (by simp) fun e more hi hse => ?_⟩, s1.past' sg fun q hq => by rw [hq]; exact Nat.le_refl _⟩
    rw [hse, one_takeN more hi] at hN
    have := (Prod.mk.inj hN).1
    have := sharedB_le e.key p
    omega
  have hdl : (s.drop i).length = s.length - i := List.length_drop
  repeat' (first
    | refine St.h ?_
    | simp (disch := first | omega | (simp only [lnv]; omega)) only [wlk, ↓get_put', ↓reduceIte, seval, Int.toNat_natCast]
    | (with_reducible (first | apply cd_split | apply gd_split)) <;> (intro hc; (try simp only [hcn] at hc); (try simp only [hc]); (try simp only [hcl] at hc); try omega))
  refine CL.pure (takeText_ok (by omega)) ?_
  rcases takeT_range (s.drop i) with hT' | ⟨tx, j, hT, j1, j2, j3⟩
  · obtain ⟨f, hT, hfn⟩ : ∃ f, takeT (s.drop i) = ([], 0, f) ∧ f ≠ 0 := by
      rcases hT' with h | h
      · exact ⟨_, h, by omega⟩
      · exact ⟨_, h, by omega⟩
    rw [hT]; unfold triT
    have hz' : (f = 0) = False := eq_false hfn
    repeat' (first
      | refine St.h ?_
      | simp (disch := first | omega | (simp only [lnv]; omega)) only [wlk, ↓get_put', ↓reduceIte, seval, hz']
      | (with_reducible (first | apply cd_split | apply gd_split)) <;> (intro hc; (try simp only [hcn] at hc); (try simp only [hc]); (try simp only [hcl] at hc); try omega))
    refine ST.all o1 rfl rfl (by simp) (by simp) fun g og sg => ?_
    repeat' (first
      | refine St.h ?_
      | simp (disch := first | omega | (simp only [lnv]; omega)) only [wlk, ↓get_put', ↓reduceIte, seval, og.ra4]
      | (with_reducible (first | apply cd_split | apply gd_split)) <;> (intro hc; (try simp only [hcn] at hc); (try simp only [hc]); (try simp only [hcl] at hc); try omega))
    subst hQ
    refine ⟨⟨(entZ, 0, f), rfl, TakeR.bad hfn fun e more hi hse => ?_⟩, s1.past' sg fun q hq => by rw [hq]; exact Nat.le_refl _⟩
    have hN2 := hN
    rw [hse, one_takeN more hi] at hN2
    have hiN := Int.ofNat.inj (Prod.mk.inj (Prod.mk.inj hN2).2).1
    rw [hse, ← hiN, one_takeT more hi] at hT
    exact hfn (Prod.mk.inj (Prod.mk.inj hT).2).2.symm
  rw [hT]; unfold triT
  have hptk : (p.take k).length = k := by rw [List.length_take]; omega
  have hij : ((i : Int) + (j : Int)) = ((i + j : Nat) : Int) := by omega
  have hmn : min (((i + j : Nat) : Int) + 43) (s.length : Int) = ((min (i + j + 43) s.length : Nat) : Int) := by omega
  repeat' (first
    | refine St.h ?_
    | simp (disch := first | omega | (simp only [lnv]; omega)) only [wlk, ↓get_put', ↓reduceIte, seval, Int.toNat_natCast]
    | (with_reducible (first | apply cd_split | apply gd_split)) <;> (intro hc; (try simp only [hcn] at hc); (try simp only [hc]); (try simp only [hcl] at hc); try omega))
  refine CL.stay (text_ok (by rw [List.length_append]; omega) hf1) fun h2 s2 => ?_
  have hf2 := s2.fl hf1
  have o2 := o1.stay s2 fun h => h
  have htl : (s.take (min (i + j + 43) s.length)).drop (i + j) = (s.drop (i + j)).take 43 := by
    rw [List.drop_take]
    have hdl2 : (s.drop (i + j)).length = s.length - (i + j) := List.length_drop
    by_cases hc : i + j + 43 ≤ s.length
    · rw [Nat.min_eq_left hc, Nat.add_sub_cancel_left]
    · rw [Nat.min_eq_right (by omega), List.take_of_length_le (by omega), List.take_of_length_le (by omega)]
  have hkl : (p.take k ++ tx).length ≤ 20000 := by rw [List.length_append]; omega
  have hxl := textB_len (p.take k ++ tx) (by omega)
  have hul : ((s.drop (i + j)).take 43).length ≤ 43 := by rw [List.length_take]; omega
  repeat' (first
    | refine St.h ?_
    | simp (disch := first | omega | (simp only [lnv]; omega)) only [wlk, ↓get_put', ↓reduceIte, seval, Int.toNat_natCast, hij, hmn, htl]
    | (with_reducible (first | apply cd_split | apply gd_split)) <;> (intro hc; (try simp only [hcn] at hc); (try simp only [hc]); (try simp only [hcl] at hc); try omega))
  refine CL.stay (read_ok (by rw [List.length_append]; omega) hf2) fun h3 s3 => ?_
  have hf3 := s3.fl hf2
  have o3 := o2.stay s3 fun h => h
  have hrd : TakeR p s (if (readE (textB (p.take k ++ tx) ++ (s.drop (i + j)).take 43)).2.2 ≠ 0 then (entZ, 0, (readE (textB (p.take k ++ tx) ++ (s.drop (i + j)).take 43)).2.2) else
      ((readE (textB (p.take k ++ tx) ++ (s.drop (i + j)).take 43)).1, ((i + j : Nat) : Int) + (readE (textB (p.take k ++ tx) ++ (s.drop (i + j)).take 43)).2.1 - ((textB (p.take k ++ tx)).length : Int), 0)) := by
    have hkt := takeT_textB (l := p.take k ++ tx) (more := (s.drop (i + j)).take 43) (by omega)
    have href := readE_ref hkt
    rw [List.drop_left] at href
    refine ⟨fun h0 => ?_, fun e more hi hse => ?_⟩
    · by_cases hb : (chkd (tailU (p.take k ++ tx) ((s.drop (i + j)).take 43))).2.2 = 0
      · obtain ⟨z, hz, z1, z2⟩ := chkd_range _ _ hb
        have hrr : readE (textB (p.take k ++ tx) ++ (s.drop (i + j)).take 43) = ((chkd (tailU (p.take k ++ tx) ((s.drop (i + j)).take 43))).1, ((textB (p.take k ++ tx)).length : Int) + (z : Int), 0) := by
          rw [href, hb, hz]; rfl
        have hdl2 : ((s.drop (i + j)).take 43).length ≤ s.length - (i + j) := by rw [List.length_take, List.length_drop]; omega
        rw [hrr]
        refine ⟨i + j + z, ?_, by omega, by omega, ?_⟩
        · show ((i + j : Nat) : Int) + (((textB (p.take k ++ tx)).length : Int) + (z : Int)) - _ = _
          omega
        · show isE (chkd (tailU (p.take k ++ tx) ((s.drop (i + j)).take 43))).1 = true
          exact chkd_isE (z := (chkd (tailU (p.take k ++ tx) ((s.drop (i + j)).take 43))).2.1) (by rw [← hb])
      · exfalso
        have h1 : (readE (textB (p.take k ++ tx) ++ (s.drop (i + j)).take 43)).2.2 ≠ 0 := by rw [href, if_pos hb]; exact hb
        rw [if_pos h1] at h0
        exact h1 h0
    · have hN2 := hN
      rw [hse, one_takeN more hi] at hN2
      have hk2 : sharedB e.key p = k := Int.ofNat.inj (Prod.mk.inj hN2).1
      have hi2 : (numB (sharedB e.key p)).length = i := Int.ofNat.inj (Prod.mk.inj (Prod.mk.inj hN2).2).1
      have hT2 := hT
      rw [hse, ← hi2, one_takeT more hi] at hT2
      have ht2 : e.key.drop (sharedB e.key p) = tx := (Prod.mk.inj hT2).1
      have hj2 : (textB (e.key.drop (sharedB e.key p))).length = j := Int.ofNat.inj (Prod.mk.inj (Prod.mk.inj hT2).2).1
      have hs2 : s.drop (i + j) = tailB e ++ more := by rw [hse, ← hi2, ← hj2]; exact one_tail more hi
      have hk3 : p.take k ++ tx = e.key := by rw [← hk2, ← ht2]; exact one_key
      rw [hs2, hk3, one_read more hi, one_len hi, hi2, hj2]
      rw [if_neg (by simp)]
      simp only [Prod.mk.injEq, true_and, and_true]
      push_cast; omega
  generalize hr : readE (textB (p.take k ++ tx) ++ (s.drop (i + j)).take 43) = r at hrd ⊢
  obtain ⟨x, z, f⟩ := r
  have hxx : ([sv x.key, .i .i64 x.seq, .b x.del, sv x.val] : List V) = entC x := rfl
  unfold triE
  rw [← hxx]
  repeat' (first
    | refine St.h ?_
    | simp (disch := first | omega | (simp only [lnv]; omega)) only [wlk, ↓get_put', ↓reduceIte, seval]
    | (with_reducible (first | apply cd_split | apply gd_split)) <;> (intro hc; (try simp only [hcn] at hc); (try simp only [hc]); (try simp only [hcl] at hc); try omega))
  refine AL.own (by simp) hf3 fun h4 s4 n4 o4 => ?_
  have hf4 := s4.fl hf3
  have o34 := o3.stay s4 fun h => h
  repeat' (first
    | refine St.h ?_
    | simp (disch := first | omega | (simp only [lnv]; omega)) only [wlk, ↓get_put', ↓reduceIte, seval]
    | (with_reducible (first | apply cd_split | apply gd_split)) <;> (intro hc; (try simp only [hcn] at hc); (try simp only [hc]); (try simp only [hcl] at hc); try omega))
  refine ST.all o4 rfl rfl (by simp) (by simp) fun h5 o5 s5 => ?_
  have hlt : B.val h.next < B.val h3.next := own_lt' o3
  have o35 := o34.stay s5 (b_ne hlt)
  have s35 : Stay nowhere h3 h5 := s4.past' s5 fun q hq => by rw [hq]; exact Nat.le_refl _
  have s15 := ((s1.trans s2).trans s3).trans s35
  have hf5 := s35.fl hf3
  by_cases fz : f = 0
  case neg =>
    have hz' : (f = 0) = False := eq_false fz
    repeat' (first
      | refine St.h ?_
      | simp (disch := first | omega | (simp only [lnv]; omega)) only [wlk, ↓get_put', ↓reduceIte, seval, hz']
      | (with_reducible (first | apply cd_split | apply gd_split)) <;> (intro hc; (try simp only [hcn] at hc); (try simp only [hc]); (try simp only [hcl] at hc); try omega))
    refine ST.all o35 rfl rfl (by simp) (by simp) fun g og sg => ?_
    repeat' (first
      | refine St.h ?_
      | simp (disch := first | omega | (simp only [lnv]; omega)) only [wlk, ↓get_put', ↓reduceIte, seval, og.ra4]
      | (with_reducible (first | apply cd_split | apply gd_split)) <;> (intro hc; (try simp only [hcn] at hc); (try simp only [hc]); (try simp only [hcl] at hc); try omega))
    subst hQ
    rw [if_pos fz] at hrd
    exact ⟨⟨_, rfl, hrd⟩, s15.past' sg fun q hq => by rw [hq]; exact Nat.le_refl _⟩
  subst fz
  rw [if_neg (by simp)] at hrd
  obtain ⟨zz, hz1, hz2, hz3, hz4⟩ := hrd.fit rfl
  simp only at hz1
  repeat' (first
    | refine St.h ?_
    | simp (disch := first | omega | (simp only [lnv]; omega)) only [wlk, ↓get_put', ↓reduceIte, seval, o5.row.ln, Int.toNat_natCast, hij, hz1]
    | (with_reducible (first | apply cd_split | apply gd_split)) <;> (intro hc; (try simp only [hcn] at hc); (try simp only [hc]); (try simp only [hcl] at hc); try omega))
  refine ST.all o35 rfl rfl (by simp) (by simp) fun g og sg => ?_
  repeat' (first
    | refine St.h ?_
    | simp (disch := first | omega | (simp only [lnv]; omega)) only [wlk, ↓get_put', ↓reduceIte, seval, og.ra4]
    | (with_reducible (first | apply cd_split | apply gd_split)) <;> (intro hc; (try simp only [hcn] at hc); (try simp only [hc]); (try simp only [hcl] at hc); try omega))
  subst hQ
  exact ⟨⟨_, by show _ = triE (x, ((i + j : Nat) : Int) + z - ((textB (p.take k ++ tx)).length : Int), 0); rw [hz1]; rfl, hrd⟩, s15.past' sg fun q hq => by rw [hq]; exact Nat.le_refl _⟩
theorem takeAll_ok {h : H} {s : List UInt8} (hs : s.length ≤ 10000) (hf : B.val h.floor ≤ B.val h.next) : FnOk Try.prog 70 [sv s] h fun y h' => ∃ L : List Ent, Es h' y L ∧ L.length ≤ s.length ∧ L.all isE = true ∧ (∀ M : List Ent, M.all isE = true → s = bodyB [] M → L = M) ∧ Stay nowhere h h' ∧ ∀ i, isOf y i → B.val h.next ≤ B.val i := by
  refine fn_go c70 (by intro hb; cases hb) (by simp) (by simp) fun Q hQ => ?_
  simp only [slotsF, Nat.reduceAdd]
  repeat' (first
    | refine St.h ?_
    | simp (disch := first | omega | (simp only [lnv]; omega)) only [wlk, ↓get_put', ↓reduceIte, seval]
    | (with_reducible (first | apply cd_split | apply gd_split)) <;> (intro hc; (try simp only [hcn] at hc); (try simp only [hc]); (try simp only [hcl] at hc); try omega))
  refine Ok.lp (fun m t g => ∃ (at0 : Nat) (p : List UInt8) (out : List Ent) (u : V), m = s.length - at0 ∧ at0 ≤ s.length ∧ out.length ≤ at0 ∧ p.length ≤ 13 ∧ out.all isE = true ∧ (∀ M : List Ent, M.all isE = true → s = bodyB [] M → ∃ M2, M = out ++ M2 ∧ M2.all isE = true ∧ s.drop at0 = bodyB p M2) ∧ get 0 t = sv s ∧ get 3 t = u ∧ get 4 t = sv p ∧ get 5 t = .i .i64 (at0 : Int) ∧ Stay nowhere h g ∧ Buf g 34 4 u (out.flatMap entC) ∧ (∀ i, isOf u i → B.val h.next ≤ B.val i)) s.length ?_ ?_
  · simp (disch := first | omega | (simp only [lnv]; omega)) only [wlk, ↓get_put', ↓reduceIte, seval]
    refine ⟨0, [], [], .l0, by omega, by omega, by simp, by simp, rfl, fun M hM hs => ⟨M, rfl, hM, by rw [hs]; rfl⟩, ?_⟩
    refine ⟨?_, ?_, ?_, ?_, Stay.refl _ _, Buf.nil _ _ _, ?_⟩
    rotate_right
    · rintro i ⟨_, _, _, _, _, e⟩; cases e
    all_goals first | trivial | rfl
  rintro I hI m t g ⟨at0, p, out, u, rfl, ha, hol, hp, hall, hM, f0, f3, f4, f5, st, bf, own⟩
  have hfg := st.fl hf
  have hes : Es g u out := Ss.buf bf rfl entC_len (by omega)
  have fin : ∀ g', Stay nowhere h g' → Es g' u out → (∀ (e : Ent) (more : List UInt8), isE e = true → s.drop at0 = oneB p e ++ more → False) → ∃ L : List Ent, Es g' u L ∧ L.length ≤ s.length ∧ L.all isE = true ∧ (∀ M : List Ent, M.all isE = true → s = bodyB [] M → L = M) ∧ Stay nowhere h g' ∧ ∀ i, isOf u i → B.val h.next ≤ B.val i := fun g' s' es hno => by
    refine ⟨out, es, by omega, hall, fun M hMa hsM => ?_, s', own⟩
    obtain ⟨M2, e1, e2, e3⟩ := hM M hMa hsM
    cases M2 with
    | nil => rw [e1]; simp
    | cons e M2 =>
      rw [List.all_cons, Bool.and_eq_true] at e2
      exact (hno e _ e2.1 e3).elim
  by_cases hat : at0 < s.length
  case neg =>
    obtain rfl : at0 = s.length := by omega
    repeat' (first
      | refine St.h ?_
      | simp (disch := first | omega | (simp only [lnv]; omega)) only [wlk, ↓get_put', ↓reduceIte, seval, f0, f3, f4, f5]
      | (with_reducible (first | apply cd_split | apply gd_split)) <;> (intro hc; (try simp only [hcn] at hc); (try simp only [hc]); (try simp only [hcl] at hc); try omega))
    subst hQ
    exact fin g st hes fun e more _ h3 => by
      rw [List.drop_length] at h3
      have := one_ne p e
      cases ho : oneB p e with
      | nil => exact this ho
      | cons a b => rw [ho] at h3; cases h3
  have hdl : (s.drop at0).length = s.length - at0 := List.length_drop
  repeat' (first
    | refine St.h ?_
    | simp (disch := first | omega | (simp only [lnv]; omega)) only [wlk, ↓get_put', ↓reduceIte, seval, f0, f3, f4, f5, Int.toNat_natCast]
    | (with_reducible (first | apply cd_split | apply gd_split)) <;> (intro hc; (try simp only [hcn] at hc); (try simp only [hc]); (try simp only [hcl] at hc); try omega))
  refine CL.mk (btake_ok (by omega) hp hfg) ?_
  rintro _ g1 ⟨⟨r, rfl, hr⟩, t1⟩
  have hfg1 := t1.fl hfg
  have hes1 := hes.grow t1
  have bf1 := bf.grow t1
  obtain ⟨x, z, f⟩ := r
  have hxx : ([sv x.key, .i .i64 x.seq, .b x.del, sv x.val] : List V) = entC x := rfl
  unfold triE
  rw [← hxx]
  repeat' (first
    | refine St.h ?_
    | simp (disch := first | omega | (simp only [lnv]; omega)) only [wlk, ↓get_put', ↓reduceIte, seval, f0, f3, f4, f5]
    | (with_reducible (first | apply cd_split | apply gd_split)) <;> (intro hc; (try simp only [hcn] at hc); (try simp only [hc]); (try simp only [hcl] at hc); try omega))
  refine AL.own (by simp) hfg1 fun g2 t2 n2 o2 => ?_
  have hfg2 := t2.fl hfg1
  have bf2 := bf1.grow t2
  repeat' (first
    | refine St.h ?_
    | simp (disch := first | omega | (simp only [lnv]; omega)) only [wlk, ↓get_put', ↓reduceIte, seval, f0, f3, f4, f5]
    | (with_reducible (first | apply cd_split | apply gd_split)) <;> (intro hc; (try simp only [hcn] at hc); (try simp only [hc]); (try simp only [hcl] at hc); try omega))
  refine ST.all o2 rfl rfl (by simp) (by simp) fun g3 o3 t3 => ?_
  have hu3 : ∀ q, isOf u q → q ≠ g1.next := fun q hq e => absurd (bf1.own hq).2 (by rw [e]; exact Nat.lt_irrefl _)
  have bf3 := bf2.stay t3 (fun q hq => hu3 q hq)
  have t13 : Stay nowhere g1 g3 := t2.past' t3 fun q hq => by rw [hq]; exact Nat.le_refl _
  have st3 := (st.trans t1).trans t13
  have hfg3 := st3.fl hf
  have hes3 : Es g3 u out := Ss.buf bf3 rfl entC_len (by omega)
  by_cases e0 : f = 0
  case neg =>
    have hd2 : (f = 0) = False := eq_false e0
    repeat' (first
      | refine St.h ?_
      | simp (disch := first | omega | (simp only [lnv]; omega)) only [wlk, ↓get_put', ↓reduceIte, seval, f0, f3, f4, f5, hd2]
      | (with_reducible (first | apply cd_split | apply gd_split)) <;> (intro hc; (try simp only [hcn] at hc); (try simp only [hc]); (try simp only [hcl] at hc); try omega))
    subst hQ
    exact fin g3 st3 hes3 fun e more hi hse => e0 (Prod.mk.inj (Prod.mk.inj (hr.laid e more hi hse)).2).2
  subst e0
  obtain ⟨z, rfl, z1, z2, hix⟩ := hr.fit rfl
  simp only at hix
  obtain ⟨x1, x2, x3, x4⟩ := isE_len hix
  repeat' (first
    | refine St.h ?_
    | simp (disch := first | omega | (simp only [lnv]; omega)) only [wlk, ↓get_put', ↓reduceIte, seval, f0, f3, f4, f5, o3.row.ln]
    | (with_reducible (first | apply cd_split | apply gd_split)) <;> (intro hc; (try simp only [hcn] at hc); (try simp only [hc]); (try simp only [hcl] at hc); try omega))
  refine AL.own (by simp) hfg3 fun g4 t4 _ o4 => ?_
  have hfg4 := t4.fl hfg3
  have bf4 := bf3.grow t4
  have o34 := o3.stay t4 fun h => h
  have hfm := fm_len entC_len out
  repeat' (first
    | refine St.h ?_
    | simp (disch := first | omega | (simp only [lnv]; omega)) only [wlk, ↓get_put', ↓reduceIte, seval, f0, f3, f4, f5]
    | (with_reducible (first | apply cd_split | apply gd_split)) <;> (intro hc; (try simp only [hcn] at hc); (try simp only [hc]); (try simp only [hcl] at hc); try omega))
  refine AP.buf (vs := entC x) (cnt := 1) bf4 (new_row o4.row rfl (Nat.le_refl _) (by omega) (by show 4 ≤ 4; omega)) hfg4 (by omega) rfl rfl (by rw [hfm, entC_len]; omega) fun u' g5 b5 t5 ho tp => ?_
  have hug : ¬ isOf u g1.next := fun hq => hu3 _ hq rfl
  have o35 := o34.stay t5 hug
  repeat' (first
    | refine St.h ?_
    | simp (disch := first | omega | (simp only [lnv]; omega)) only [wlk, ↓get_put', ↓reduceIte, seval, f0, f3, f4, f5, o35.row.l1]
    | (with_reducible (first | apply cd_split | apply gd_split)) <;> (intro hc; (try simp only [hcn] at hc); (try simp only [hc]); (try simp only [hcl] at hc); try omega))
  have s5 : Stay nowhere h g5 := (st3.trans t4).past' t5 fun q hq => own q hq
  refine lp_next hI (s.length - (at0 + z)) (by omega) ⟨at0 + z, x.key, out ++ [x], u', rfl, by omega, by rw [List.length_append]; simp; omega, x1, by rw [List.all_append, hall]; simp [hix], ?_, ?_, ?_, ?_, ?_, s5, ?_, fun q hq => ?_⟩
  · intro M hMa hsM
    obtain ⟨M2, e1, e2, e3⟩ := hM M hMa hsM
    cases M2 with
    | nil =>
      rw [e3] at hdl; simp [bodyB] at hdl; omega
    | cons e M2 =>
      rw [List.all_cons, Bool.and_eq_true] at e2
      have h7 := hr.laid e _ e2.1 e3
      have hx : x = e := (Prod.mk.inj h7).1
      have hz : z = (oneB p e).length := Int.ofNat.inj (Prod.mk.inj (Prod.mk.inj h7).2).1
      refine ⟨M2, by rw [e1, hx]; simp, e2.2, ?_⟩
      rw [← List.drop_drop, e3, hz, hx]
      show (oneB p e ++ bodyB e.key M2).drop _ = _
      rw [List.drop_left]
  · simp (disch := first | omega | (simp only [lnv]; omega)) only [wlk, ↓get_put', ↓reduceIte, seval, f0]
  · simp (disch := first | omega | (simp only [lnv]; omega)) only [wlk, ↓get_put', ↓reduceIte, seval]
  · simp (disch := first | omega | (simp only [lnv]; omega)) only [wlk, ↓get_put', ↓reduceIte, seval]
  · simp (disch := first | omega | (simp only [lnv]; omega)) only [wlk, ↓get_put', ↓reduceIte, seval]; all_goals (congr 1; try omega)
  · rw [List.flatMap_append]; simpa using b5
  · rcases ho q hq with h1 | h1
    · exact own q h1
    · have := st3.next; have := t4.next; omega
theorem bread_okO {h : H} {s : List UInt8} (hs : s.length ≤ 10000) (hf : B.val h.floor ≤ B.val h.next) : FnOk Try.prog 47 [sv s] h fun y h' => ∃ v, y = .tu [v, .i .i64 (readB s).2] ∧ Es h' v (readB s).1 ∧ Stay nowhere h h' ∧ ∀ i, isOf v i → B.val h.next ≤ B.val i := by
  have no : ∀ i, isOf .l0 i → B.val h.next ≤ B.val i := fun i ⟨_, _, _, _, _, e⟩ => (by cases e)
  refine fn_go c47 (by intro hb; cases hb) (by simp) (by simp) fun Q hQ => ?_
  simp only [slotsF, Nat.reduceAdd]
  repeat' (first
    | refine St.h ?_
    | simp (disch := first | omega | (simp only [lnv]; omega)) only [wlk, ↓get_put', ↓reduceIte, seval]
    | (with_reducible (first | apply cd_split | apply gd_split)) <;> (intro hc; (try simp only [hcn] at hc); (try simp only [hc]); (try simp only [hcl] at hc); try omega))
  refine CL.stay (open_ok (by omega) hf) fun h1 s1 => ?_
  have hf1 := s1.fl hf
  rcases openB_range s with hO | hO | ⟨b, n, hO, n1, n2, n3⟩
  · unfold opn; rw [hO]
    repeat' (first
      | refine St.h ?_
      | simp (disch := first | omega | (simp only [lnv]; omega)) only [wlk, ↓get_put', ↓reduceIte, seval]
      | (with_reducible (first | apply cd_split | apply gd_split)) <;> (intro hc; (try simp only [hcn] at hc); (try simp only [hc]); (try simp only [hcl] at hc); try omega))
    subst hQ
    exact ⟨_, by rw [readB_1 hO (by omega)], by rw [readB_1 hO (by omega)]; exact Ss.nil, s1, no⟩
  · unfold opn; rw [hO]
    repeat' (first
      | refine St.h ?_
      | simp (disch := first | omega | (simp only [lnv]; omega)) only [wlk, ↓get_put', ↓reduceIte, seval]
      | (with_reducible (first | apply cd_split | apply gd_split)) <;> (intro hc; (try simp only [hcn] at hc); (try simp only [hc]); (try simp only [hcl] at hc); try omega))
    subst hQ
    exact ⟨_, by rw [readB_1 hO (by omega)], by rw [readB_1 hO (by omega)]; exact Ss.nil, s1, no⟩
  unfold opn; rw [hO]
  by_cases hn : n = s.length
  case neg =>
    have hd : ((n : Int) < (s.length : Int)) = True := eq_true (by omega)
    repeat' (first
      | refine St.h ?_
      | simp (disch := first | omega | (simp only [lnv]; omega)) only [wlk, ↓get_put', ↓reduceIte, seval, hd]
      | (with_reducible (first | apply cd_split | apply gd_split)) <;> (intro hc; (try simp only [hcn] at hc); (try simp only [hc]); (try simp only [hcl] at hc); try omega))
    subst hQ
    exact ⟨_, by rw [readB_2 hO hn], by rw [readB_2 hO hn]; exact Ss.nil, s1, no⟩
  have hd : ((n : Int) < (s.length : Int)) = False := eq_false (by omega)
  repeat' (first
    | refine St.h ?_
    | simp (disch := first | omega | (simp only [lnv]; omega)) only [wlk, ↓get_put', ↓reduceIte, seval, hd]
    | (with_reducible (first | apply cd_split | apply gd_split)) <;> (intro hc; (try simp only [hcn] at hc); (try simp only [hc]); (try simp only [hcl] at hc); try omega))
  refine CL.mk (takeAll_ok (by omega) hf1) ?_
  rintro v h2 ⟨L, hL, hl, hall, hM, s2, own⟩
  have hf2 := s2.fl hf1
  repeat' (first
    | refine St.h ?_
    | simp (disch := first | omega | (simp only [lnv]; omega)) only [wlk, ↓get_put', ↓reduceIte, seval]
    | (with_reducible (first | apply cd_split | apply gd_split)) <;> (intro hc; (try simp only [hcn] at hc); (try simp only [hc]); (try simp only [hcl] at hc); try omega))
  refine CL.stay (bmake_ok hL (by omega) hf2) fun h3 s3 => ?_
  have s13 := (s1.trans s2).trans s3
  by_cases e1 : (blkE L).1 = s
  · have hne : L ≠ [] := by intro e; rw [e, blkE_nil] at e1; rw [← e1] at hn; simp at hn; omega
    have hso : sortedE L = true := by
      cases hs : sortedE L with
      | true => rfl
      | false => rw [blkE_un hall hne hs] at e1; rw [← e1] at hn; simp at hn; omega
    have hr : readB s = (L, 0) := by
      rw [blkE_ok hall hne hso] at e1
      rw [← e1]; exact readB_back hall hne hso (by omega)
    repeat' (first
      | refine St.h ?_
      | simp (disch := first | omega | (simp only [lnv]; omega)) only [wlk, ↓get_put', ↓reduceIte, seval, e1]
      | (with_reducible (first | apply cd_split | apply gd_split)) <;> (intro hc; (try simp only [hcn] at hc); (try simp only [hc]); (try simp only [hcl] at hc); try omega))
    subst hQ
    exact ⟨_, by rw [hr], by rw [hr]; exact hL.grow s3, s13, fun i hi => Nat.le_trans s1.next (own i hi)⟩
  · have hr : readB s = ([], 10) := by
      by_cases h0 : (readB s).2 = 0
      · exfalso
        have hm := readB_made h0
        have h8 : ∀ M : List Ent, blkE M = (s, 0) → M.all isE = true ∧ M ≠ [] ∧ sortedE M = true := fun M hm => by
          cases ha : M.all isE with
          | false => rw [blkE_bad ha] at hm; cases hm
          | true =>
            refine ⟨rfl, fun e => ?_, ?_⟩
            · rw [e, blkE_nil] at hm; cases hm
            · cases hs : sortedE M with
              | true => rfl
              | false =>
                by_cases hne : M = []
                · rw [hne, blkE_nil] at hm; cases hm
                · rw [blkE_un ha hne hs] at hm; cases hm
        obtain ⟨q1, q2, q3⟩ := h8 _ hm
        have hm2 := hm
        rw [blkE_ok q1 q2 q3] at hm2
        have hbl := bodyB_len (p := []) q1
        have hos := openB_seal (l := bodyB [] (readB s).1) (more := []) (by have := readB_len s; omega)
        rw [List.append_nil, (Prod.mk.inj hm2).1, hO] at hos
        have := hM _ q1 (Prod.mk.inj hos).1
        rw [this] at e1
        exact e1 (by rw [hm])
      · have h1 := readB_none h0
        have h2 : (readB s).2 = 10 := by
          unfold readB at h0 ⊢
          rw [hO] at h0 ⊢
          simp only at h0 ⊢
          rw [if_neg (by simp), if_neg (by simp; omega)] at h0 ⊢
          split at h0
          · rfl
          · split at h0
            · exact absurd rfl h0
            · rw [if_neg (by assumption)]
        rw [← h1, ← h2]
    repeat' (first
      | refine St.h ?_
      | simp (disch := first | omega | (simp only [lnv]; omega)) only [wlk, ↓get_put', ↓reduceIte, seval, e1]
      | (with_reducible (first | apply cd_split | apply gd_split)) <;> (intro hc; (try simp only [hcn] at hc); (try simp only [hc]); (try simp only [hcl] at hc); try omega))
    subst hQ
    exact ⟨_, by rw [hr], by rw [hr]; exact Ss.nil, s13, no⟩
theorem bread_ok {h : H} {s : List UInt8} (hs : s.length ≤ 10000) (hf : B.val h.floor ≤ B.val h.next) : FnOk Try.prog 47 [sv s] h fun y h' => ∃ v, y = .tu [v, .i .i64 (readB s).2] ∧ Es h' v (readB s).1 ∧ Stay nowhere h h' := (bread_okO hs hf).mono fun y g ⟨v, a, b, c, _⟩ => ⟨v, a, b, c⟩
end Go.Proofs.Ytiingkpdodbldaa

set_option maxRecDepth 1000000
set_option linter.all false
namespace Go.Proofs.Ytiingkpdodbldaa
open Go Go.Ev
noncomputable abbrev s77_0 : CC := (CC.cond (tm 10) CC.skip (CC.exit 0))
noncomputable abbrev s77_1 : CC := (CC.region [(wB 19 (doMove (tm 5))), (wB 20 (bin2 fMul (tm 19) (O.c (V.i IntKind.u32 (Int.ofNat 31))))), (wB 21 (doMove (tm 0))), (wB 22 (doMove (tm 6))), (wB 23 (doSIndex (tm 21) (tm 22))), (wB 24 (doConv IntKind.u32 (tm 23))), (wB 25 (bin2 fXor (tm 20) (tm 24))), (wB 5 (doMove (tm 25)))])
noncomputable abbrev s77_2 : CC := (CC.seq (CC.region [(wB 12 (doMove (tm 4))), (wB 13 (bin2 fMul (tm 12) (O.c (V.i IntKind.u32 (Int.ofNat 33))))), (wB 14 (doMove (tm 0))), (wB 15 (doMove (tm 6))), (wB 16 (doSIndex (tm 14) (tm 15))), (wB 17 (doConv IntKind.u32 (tm 16))), (wB 18 (bin2 fAdd (tm 13) (tm 17))), (wB 4 (doMove (tm 18)))]) s77_1)
noncomputable abbrev s77_3 : CC := (CC.seq (CC.region [(wB 11 (doMove (tm 9))), (wB 6 (doMove (tm 11)))]) s77_2)
noncomputable abbrev s77_4 : CC := (CC.block 1 s77_3)
noncomputable abbrev s77_5 : CC := (CC.region [(wB 26 (bin2 fAdd (tm 9) (oN 1))), (wB 9 (doMove (tm 26)))])
noncomputable abbrev s77_6 : CC := (CC.seq s77_4 s77_5)
noncomputable abbrev s77_7 : CC := (CC.seq s77_0 s77_6)
noncomputable abbrev l77_0 : CC := (CC.seq (CC.region [(wB 10 (bin2 fLss (tm 9) (tm 8)))]) s77_7)
noncomputable abbrev s77_8 : CC := (CC.loop l77_0)
noncomputable abbrev s77_9 : CC := (CC.block 0 s77_8)
noncomputable abbrev s77_10 : CC := (CC.seq (CC.region [(wB 7 (doMove (tm 0))), (wB 8 (doLenS (tm 7))), (wB 9 (doMove (oN 0)))]) s77_9)
noncomputable abbrev s77_11 : CC := (CC.seq (CC.region [(wB 27 (doMove (tm 4))), (wB 28 (doMove (tm 5))), (wB 29 (bin2 fOr (tm 28) (O.c (V.i IntKind.u32 (Int.ofNat 1))))), (wB 2 (doMove (tm 27))), (wB 3 (doMove (tm 29)))]) CC.ret)
noncomputable abbrev s77_12 : CC := (CC.seq s77_10 s77_11)
noncomputable abbrev s77_13 : CC := (CC.seq (CC.region [(wB 4 (doMove (O.c (V.i IntKind.u32 (Int.ofNat 5381))))), (wB 5 (doMove (O.c (V.i IntKind.u32 (Int.ofNat 52711)))))]) s77_12)
noncomputable abbrev b77 : CC := (CC.seq (CC.region [(wB 2 (doMove (O.c (V.i IntKind.u32 (Int.ofNat 0))))), (wB 3 (doMove (O.c (V.i IntKind.u32 (Int.ofNat 0)))))]) s77_13)
theorem c77 : compFn Try.prog 77 = ⟨30, b77, [(Rs.tmp (slOf 2)), (Rs.tmp (slOf 3))]⟩ := by kernel_rfl
noncomputable abbrev s28_0 : CC := (CC.cond (tm 15) CC.skip (CC.exit 0))
noncomputable abbrev s28_1 : CC := (CC.cond (tm 23) CC.skip (CC.exit 2))
noncomputable abbrev s28_2 : CC := (CC.region [(wB 25 (doMove (tm 3))), (wB 26 (doMove (tm 7))), (wB 27 (bin2 fQuo (tm 26) (O.c (V.i IntKind.u64 (Int.ofNat 8))))), (wB 28 (doIndexAddr 1 (tm 25) (tm 27))), (wB 29 (doLoad (tm 28))), (wB 30 (doMove (tm 7))), (wB 31 (doRem (tm 30) (O.c (V.i IntKind.u64 (Int.ofNat 8))))), (wB 32 (doShift shlF (O.c (V.i IntKind.u8 (Int.ofNat 1))) (tm 31))), (wB 33 (bin2 fOr (tm 29) (tm 32))), (wB 34 (doIndexAddr 1 (tm 25) (tm 27))), (CO.mk G.none D.none Bool.true (CR.mk (doStore 1 (tm 34) (tm 33))))])
noncomputable abbrev s28_3 : CC := (CC.seq (CC.region [(wB 24 (doAIndex 4 1 (tm 21) (tm 22))), (wB 7 (doMove (tm 24)))]) s28_2)
noncomputable abbrev s28_4 : CC := (CC.block 3 s28_3)
noncomputable abbrev s28_5 : CC := (CC.region [(wB 35 (bin2 fAdd (tm 22) (oN 1))), (wB 22 (doMove (tm 35)))])
noncomputable abbrev s28_6 : CC := (CC.seq s28_4 s28_5)
noncomputable abbrev s28_7 : CC := (CC.seq s28_1 s28_6)
noncomputable abbrev l28_0 : CC := (CC.seq (CC.region [(wB 23 (bin2 fLss (tm 22) (oN 4)))]) s28_7)
noncomputable abbrev s28_8 : CC := (CC.loop l28_0)
noncomputable abbrev s28_9 : CC := (CC.block 2 s28_8)
noncomputable abbrev s28_10 : CC := (CC.seq (CC.region [(wB 18 (doMove (tm 5))), (wB 19 (doMove (tm 3))), (wB 20 (doLen (tm 19))), (wB 21 (doCall 56 [(tm 18), (tm 20)])), (wB 22 (doMove (oN 0)))]) s28_9)
noncomputable abbrev s28_11 : CC := (CC.seq (CC.region [(wB 16 (doIndexAddr 1 (tm 12) (tm 14))), (wB 17 (doLoad (tm 16))), (wB 5 (doMove (tm 17)))]) s28_10)
noncomputable abbrev s28_12 : CC := (CC.block 1 s28_11)
noncomputable abbrev s28_13 : CC := (CC.region [(wB 36 (bin2 fAdd (tm 14) (oN 1))), (wB 14 (doMove (tm 36)))])
noncomputable abbrev s28_14 : CC := (CC.seq s28_12 s28_13)
noncomputable abbrev s28_15 : CC := (CC.seq s28_0 s28_14)
noncomputable abbrev l28_1 : CC := (CC.seq (CC.region [(wB 15 (bin2 fLss (tm 14) (tm 13)))]) s28_15)
noncomputable abbrev s28_16 : CC := (CC.loop l28_1)
noncomputable abbrev s28_17 : CC := (CC.block 0 s28_16)
noncomputable abbrev s28_18 : CC := (CC.seq (CC.region [(wB 12 (doMove (tm 0))), (wB 13 (doLen (tm 12))), (wB 14 (doMove (oN 0)))]) s28_17)
noncomputable abbrev s28_19 : CC := (CC.seq (CC.region [(wB 37 (doMove (tm 3))), (wB 38 (doB2S (tm 37))), (wB 2 (doMove (tm 38)))]) CC.ret)
noncomputable abbrev s28_20 : CC := (CC.seq s28_18 s28_19)
noncomputable abbrev s28_21 : CC := (CC.seq (CC.region [(wB 8 (doMove (tm 0))), (wB 9 (doLen (tm 8))), (wB 10 (doMax (tm 9) (oN 8))), (wB 11 (doMakeSlice 5 [(V.i IntKind.u8 (Int.ofNat 0))] (tm 10) (tm 10))), (wB 3 (doMove (tm 11)))]) s28_20)
noncomputable abbrev b28 : CC := (CC.seq (CC.region [(wB 2 (doMove (O.c (V.s 0 0))))]) s28_21)
theorem c28 : compFn Try.prog 28 = ⟨39, b28, [(Rs.tmp (slOf 2))]⟩ := by kernel_rfl
noncomputable abbrev s42_0 : CC := (CC.seq (CC.region [(wB 4 (doMove (O.c (V.b Bool.true))))]) CC.ret)
noncomputable abbrev s42_1 : CC := (CC.cond (tm 9) s42_0 CC.skip)
noncomputable abbrev s42_2 : CC := (CC.seq (CC.region [(wB 8 (doMove (tm 0))), (wB 9 (doSCmp eqS (tm 8) (O.c (V.s 0 0))))]) s42_1)
noncomputable abbrev s42_3 : CC := (CC.cond (tm 15) CC.skip (CC.exit 0))
noncomputable abbrev s42_4 : CC := (CC.region [(wB 27 (doMove (tm 5))), (wB 28 (bin2 fAdd (tm 27) (oN 1))), (wB 5 (doMove (tm 28)))])
noncomputable abbrev s42_5 : CC := (CC.cond (tm 25) s42_4 (CC.exit 0))
noncomputable abbrev s42_6 : CC := (CC.seq (CC.region [(wB 26 (bin2 fEql (tm 24) (O.c (V.i IntKind.u8 (Int.ofNat 1))))), (wB 25 (doMove (tm 26)))]) s42_5)
noncomputable abbrev s42_7 : CC := (CC.block 2 s42_6)
noncomputable abbrev s42_8 : CC := (CC.seq (CC.region [(wB 17 (doMove (tm 0))), (wB 18 (doMove (tm 7))), (wB 19 (bin2 fQuo (tm 18) (O.c (V.i IntKind.u64 (Int.ofNat 8))))), (wB 20 (doSIndex (tm 17) (tm 19))), (wB 21 (doMove (tm 7))), (wB 22 (doRem (tm 21) (O.c (V.i IntKind.u64 (Int.ofNat 8))))), (wB 23 (doShift shrF (tm 20) (tm 22))), (wB 24 (bin2 fAnd (tm 23) (O.c (V.i IntKind.u8 (Int.ofNat 1)))))]) s42_7)
noncomputable abbrev s42_9 : CC := (CC.seq (CC.region [(wB 16 (doAIndex 4 1 (tm 13) (tm 14))), (wB 7 (doMove (tm 16)))]) s42_8)
noncomputable abbrev s42_10 : CC := (CC.block 1 s42_9)
noncomputable abbrev s42_11 : CC := (CC.region [(wB 29 (bin2 fAdd (tm 14) (oN 1))), (wB 14 (doMove (tm 29)))])
noncomputable abbrev s42_12 : CC := (CC.seq s42_10 s42_11)
noncomputable abbrev s42_13 : CC := (CC.seq s42_3 s42_12)
noncomputable abbrev l42_0 : CC := (CC.seq (CC.region [(wB 15 (bin2 fLss (tm 14) (oN 4)))]) s42_13)
noncomputable abbrev s42_14 : CC := (CC.loop l42_0)
noncomputable abbrev s42_15 : CC := (CC.block 0 s42_14)
noncomputable abbrev s42_16 : CC := (CC.seq (CC.region [(wB 10 (doMove (tm 1))), (wB 11 (doMove (tm 0))), (wB 12 (doLenS (tm 11))), (wB 13 (doCall 56 [(tm 10), (tm 12)])), (wB 14 (doMove (oN 0)))]) s42_15)
noncomputable abbrev s42_17 : CC := (CC.seq (CC.region [(wB 30 (doMove (tm 5))), (wB 31 (bin2 fEql (tm 30) (oN 4))), (wB 4 (doMove (tm 31)))]) CC.ret)
noncomputable abbrev s42_18 : CC := (CC.seq s42_16 s42_17)
noncomputable abbrev s42_19 : CC := (CC.seq CC.skip s42_18)
noncomputable abbrev s42_20 : CC := (CC.seq (CC.region [(wB 5 (doMove (oN 0)))]) s42_19)
noncomputable abbrev s42_21 : CC := (CC.seq s42_2 s42_20)
noncomputable abbrev b42 : CC := (CC.seq (CC.region [(wB 4 (doMove (O.c (V.b Bool.false))))]) s42_21)
theorem c42 : compFn Try.prog 42 = ⟨32, b42, [(Rs.tmp (slOf 4))]⟩ := by kernel_rfl
noncomputable abbrev s56_0 : CC := (CC.cond (tm 16) CC.skip (CC.exit 0))
noncomputable abbrev s56_1 : CC := (CC.region [(wB 26 (doMove (tm 8))), (wB 27 (doMove (tm 9))), (wB 28 (doMove (tm 1))), (wB 29 (doConv IntKind.u64 (tm 28))), (wB 30 (bin2 fMul (tm 29) (O.c (V.i IntKind.u64 (Int.ofNat 8))))), (wB 31 (doRem (tm 27) (tm 30))), (wB 32 (doIndexAddrArr 4 1 (tm 7) (tm 26))), (CO.mk G.none D.none Bool.true (CR.mk (doStore 1 (tm 32) (tm 31))))])
noncomputable abbrev s56_2 : CC := (CC.seq (CC.region [(wB 18 (doMove (tm 5))), (wB 19 (doConv IntKind.u64 (tm 18))), (wB 20 (doMove (tm 8))), (wB 21 (doConv IntKind.u64 (tm 20))), (wB 22 (doMove (tm 6))), (wB 23 (doConv IntKind.u64 (tm 22))), (wB 24 (bin2 fMul (tm 21) (tm 23))), (wB 25 (bin2 fAdd (tm 19) (tm 24))), (wB 9 (doMove (tm 25)))]) s56_1)
noncomputable abbrev s56_3 : CC := (CC.seq (CC.region [(wB 17 (doMove (tm 15))), (wB 8 (doMove (tm 17)))]) s56_2)
noncomputable abbrev s56_4 : CC := (CC.block 1 s56_3)
noncomputable abbrev s56_5 : CC := (CC.region [(wB 33 (bin2 fAdd (tm 15) (oN 1))), (wB 15 (doMove (tm 33)))])
noncomputable abbrev s56_6 : CC := (CC.seq s56_4 s56_5)
noncomputable abbrev s56_7 : CC := (CC.seq s56_0 s56_6)
noncomputable abbrev l56_0 : CC := (CC.seq (CC.region [(wB 16 (bin2 fLss (tm 15) (oN 4)))]) s56_7)
noncomputable abbrev s56_8 : CC := (CC.loop l56_0)
noncomputable abbrev s56_9 : CC := (CC.block 0 s56_8)
noncomputable abbrev s56_10 : CC := (CC.seq (CC.region [(wB 15 (doMove (oN 0)))]) s56_9)
noncomputable abbrev s56_11 : CC := (CC.seq (CC.region [(wB 34 (doLoadA 4 (tm 7))), (CO.mk G.none D.none Bool.true (CR.mk (doStore 4 (tm 4) (tm 34))))]) CC.ret)
noncomputable abbrev s56_12 : CC := (CC.seq s56_10 s56_11)
noncomputable abbrev s56_13 : CC := (CC.seq (CC.region [(wB 7 (doAlloc 88 [(V.i IntKind.u64 (Int.ofNat 0)), (V.i IntKind.u64 (Int.ofNat 0)), (V.i IntKind.u64 (Int.ofNat 0)), (V.i IntKind.u64 (Int.ofNat 0))]))]) s56_12)
noncomputable abbrev s56_14 : CC := (CC.seq (CC.region [(wB 11 (doMove (tm 0))), (wB 12 (doCall 77 [(tm 11)])), (wB 10 (doMove (tm 12))), (wB 13 (doExtract 0 (tm 10))), (wB 14 (doExtract 1 (tm 10))), (wB 5 (doMove (tm 13))), (wB 6 (doMove (tm 14)))]) s56_13)
noncomputable abbrev b56 : CC := (CC.seq (CC.region [(wB 4 (doAlloc 88 [(V.i IntKind.u64 (Int.ofNat 0)), (V.i IntKind.u64 (Int.ofNat 0)), (V.i IntKind.u64 (Int.ofNat 0)), (V.i IntKind.u64 (Int.ofNat 0))]))]) s56_14)
theorem c56 : compFn Try.prog 56 = ⟨35, b56, [(Rs.cellA (slOf 4) 4)]⟩ := by kernel_rfl
end Go.Proofs.Ytiingkpdodbldaa

set_option maxRecDepth 100000
set_option maxHeartbeats 8000000
set_option linter.all false
namespace Go.Proofs.Ytiingkpdodbldaa
open Go Go.Ev
theorem wrap_u32m {n : Int} (h : 0 ≤ n) : IntKind.u32.wrap n = n % 4294967296 := by
  simp only [IntKind.wrap, IntKind.bits, IntKind.signed]; simp
theorem repL_bv (n : Nat) : repL [V.i .u8 0] n = (List.replicate n (0 : UInt8)).map bv := by
  induction n with
  | zero => rfl
  | succ n ih =>
    have e : repL [V.i .u8 0] (n + 1) = V.i .u8 0 :: repL [V.i .u8 0] n := rfl
    rw [e, ih, List.replicate_succ, List.map_cons]; rfl
theorem bv_at {s : List UInt8} {j : Nat} (hj : j < s.length) : (s.map bv).getD j .u = .i .u8 ((s.getD j 0).toNat : Int) := by
  simp [List.getD, hj]; rfl
theorem wrap_u64s {n : Int} (h : 0 ≤ n) (h2 : n ≤ 1152921504606846976) : IntKind.u64.wrap n = n := wrap_u64 h (by omega)
theorem pow_byte {k : Nat} : IntKind.u8.wrap (1 * ((2 ^ ((k : Int) % 8).toNat : Nat) : Int)) = ((2 ^ (k % 8) : Nat) : Int) := by
  have e : ((k : Int) % 8).toNat = k % 8 := by omega
  rw [e]
  have h1 : 2 ^ (k % 8) < 2 ^ 8 := Nat.pow_lt_pow_right (by omega) (by omega)
  generalize 2 ^ (k % 8) = z at *
  rw [Int.one_mul, wrap_u8 (by omega) (by omega)]
end Go.Proofs.Ytiingkpdodbldaa

set_option maxRecDepth 100000
set_option maxHeartbeats 8000000
set_option linter.all false
namespace Go.Proofs.Ytiingkpdodbldaa
open Go Go.Ev
theorem hash_ok {h : H} {l : List UInt8} (hl : l.length ≤ 1000000) : FnOk Try.prog 77 [sv l] h fun y h' => y = .tu [.i .u32 ((hashB l).1 : Int), .i .u32 ((hashB l).2 : Int)] ∧ h' = h := by
  refine fn_go c77 (by intro hb; cases hb) (by simp) (by simp) fun Q hQ => ?_
  simp only [slotsF, Nat.reduceAdd]
  repeat' (first
    | refine St.h ?_
    | simp (disch := first | omega | (simp only [lnv]; omega)) only [wlk, ↓get_put', ↓reduceIte, seval]
    | (with_reducible (first | apply cd_split | apply gd_split)) <;> (intro hc; (try simp only [hcn] at hc); (try simp only [hc]); (try simp only [hcl] at hc); try omega))
  refine Ok.lp (fun m t g => ∃ i : Nat, i ≤ l.length ∧ m = l.length - i ∧ h = g ∧ get 0 t = sv l ∧ get 4 t = .i .u32 ((hashU (l.take i)).1 : Int) ∧ get 5 t = .i .u32 ((hashU (l.take i)).2 : Int) ∧ get 8 t = .i .i64 (l.length : Int) ∧ get 9 t = .i .i64 (i : Int)) l.length ?_ ?_
  · simp (disch := first | omega | (simp only [lnv]; omega)) only [wlk, ↓get_put', ↓reduceIte, seval]
    exact ⟨0, by omega, by omega, trivial, trivial, rfl, rfl, trivial, rfl⟩
  rintro I hI m t g ⟨i, hi, rfl, rfl, f0, f4, f5, f8, f9⟩
  have hci := (l.getD i 0).toNat_lt
  have ⟨b1, b2⟩ := hashU_lt (l.take i)
  repeat' (first
    | refine St.h ?_
    | simp (disch := first | omega | (simp only [lnv]; omega)) only [wlk, ↓get_put', ↓reduceIte, seval, f0, f4, f5, f8, f9, wrap_u32m, Int.toNat_natCast]
    | (with_reducible (first | apply cd_split | apply gd_split)) <;> (intro hc; (try simp only [hcn] at hc); (try simp only [hc]); (try simp only [hcl] at hc); try omega))
  · have e := hashU_take (l := l) (i := i) (by omega)
    refine lp_next hI (l.length - (i + 1)) (by omega) ⟨i + 1, by omega, rfl, rfl, ?_, ?_, ?_, ?_, ?_⟩
    · simp (disch := first | omega | (simp only [lnv]; omega)) only [wlk, ↓get_put', ↓reduceIte, seval, f0]
    · simp (disch := first | omega | (simp only [lnv]; omega)) only [wlk, ↓get_put', ↓reduceIte, seval, e, hashStep]
      congr 1; omega
    · simp (disch := first | omega | (simp only [lnv]; omega)) only [wlk, ↓get_put', ↓reduceIte, seval, e, hashStep]
      congr 2
    · simp (disch := first | omega | (simp only [lnv]; omega)) only [wlk, ↓get_put', ↓reduceIte, seval, f8]
    · simp (disch := first | omega | (simp only [lnv]; omega)) only [wlk, ↓get_put', ↓reduceIte, seval]; rfl
  · obtain rfl : i = l.length := by omega
    rw [List.take_length] at *
    subst hQ
    exact ⟨rfl, rfl⟩
theorem sv_lt {h : H} {id : B} {xs : List V} (o : Ev.Own h id xs) : B.val id < B.val h.next := by obtain ⟨_, _, _, _, _, _, h6, _⟩ := o; exact h6
theorem sv_ne {a b : B} (h : B.val a < B.val b) : a ≠ b := fun e => by rw [e] at h; exact absurd h (Nat.lt_irrefl _)
/-- the four bits' places, as many as are told -/
def fillV (key : List UInt8) (n q : Nat) : List V := [.i .u64 ((if 0 < q then spot key n 0 else 0 : Nat) : Int), .i .u64 ((if 1 < q then spot key n 1 else 0 : Nat) : Int), .i .u64 ((if 2 < q then spot key n 2 else 0 : Nat) : Int), .i .u64 ((if 3 < q then spot key n 3 else 0 : Nat) : Int)]
theorem fillV_set {key : List UInt8} {n q : Nat} (hq : q < 4) : (fillV key n q).set q (.i .u64 (spot key n q : Int)) = fillV key n (q + 1) := by
  match q, hq with
  | 0, _ => rfl
  | 1, _ => rfl
  | 2, _ => rfl
  | 3, _ => rfl
def spotsV (key : List UInt8) (n : Nat) : List V := [.i .u64 (spot key n 0 : Int), .i .u64 (spot key n 1 : Int), .i .u64 (spot key n 2 : Int), .i .u64 (spot key n 3 : Int)]
theorem spotsV_len {key : List UInt8} {n : Nat} : (spotsV key n).length = 4 := rfl
theorem spotsV_at {key : List UInt8} {n q : Nat} (hq : q < 4) : (spotsV key n).getD q .u = .i .u64 (spot key n q : Int) := by
  match q, hq with
  | 0, _ => rfl
  | 1, _ => rfl
  | 2, _ => rfl
  | 3, _ => rfl
theorem bitsOf_ok {h : H} {key : List UInt8} {n : Nat} (hk : key.length ≤ 1000000) (hn : 1 ≤ n) (hn2 : n ≤ 1000000) (hf : B.val h.floor ≤ B.val h.next) : FnOk Try.prog 56 [sv key, .i .i64 (n : Int)] h fun y h' => y = .a (spotsV key n) ∧ Stay nowhere h h' := by
  refine fn_go c56 (by intro hb; cases hb) (by simp) (by simp) fun Q hQ => ?_
  simp only [slotsF, Nat.reduceAdd]
  repeat' (first
    | refine St.h ?_
    | simp (disch := first | omega | (simp only [lnv]; omega)) only [wlk, ↓get_put', ↓reduceIte, seval]
    | (with_reducible (first | apply cd_split | apply gd_split)) <;> (intro hc; (try simp only [hcn] at hc); (try simp only [hc]); (try simp only [hcl] at hc); try omega))
  refine AL.own (by simp) hf fun h1 s1 n1 o1 => ?_
  have hf1 := s1.fl hf
  repeat' (first
    | refine St.h ?_
    | simp (disch := first | omega | (simp only [lnv]; omega)) only [wlk, ↓get_put', ↓reduceIte, seval]
    | (with_reducible (first | apply cd_split | apply gd_split)) <;> (intro hc; (try simp only [hcn] at hc); (try simp only [hc]); (try simp only [hcl] at hc); try omega))
  refine CL.pure (hash_ok hk) ?_
  have ⟨a1, a2⟩ := hashB_lt key
  have hsp : ∀ q : Nat, spot key n q = ((hashB key).1 + q * (hashB key).2) % (8 * n) := fun q => rfl
  generalize hab : hashB key = ab at *
  obtain ⟨a, b⟩ := ab
  repeat' (first
    | refine St.h ?_
    | simp (disch := first | omega | (simp only [lnv]; omega)) only [wlk, ↓get_put', ↓reduceIte, seval]
    | (with_reducible (first | apply cd_split | apply gd_split)) <;> (intro hc; (try simp only [hcn] at hc); (try simp only [hc]); (try simp only [hcl] at hc); try omega))
  refine AL.own (by simp) hf1 fun h2 s2 n2 o2 => ?_
  have hf2 := s2.fl hf1
  have hb := sv_lt o1
  have o1 := o1.stay s2 fun h => h
  repeat' (first
    | refine St.h ?_
    | simp (disch := first | omega | (simp only [lnv]; omega)) only [wlk, ↓get_put', ↓reduceIte, seval]
    | (with_reducible (first | apply cd_split | apply gd_split)) <;> (intro hc; (try simp only [hcn] at hc); (try simp only [hc]); (try simp only [hcl] at hc); try omega))
  refine Ok.lp (fun m t g => ∃ q : Nat, q ≤ 4 ∧ m = 4 - q ∧ get 1 t = .i .i64 (n : Int) ∧ get 4 t = .p h.next 0 0 4 ∧ get 5 t = .i .u32 (a : Int) ∧ get 6 t = .i .u32 (b : Int) ∧ get 7 t = .p h1.next 0 0 4 ∧ get 15 t = .i .i64 (q : Int) ∧ Ev.Own g h1.next (fillV key n q) ∧ Ev.Own g h.next [.i .u64 0, .i .u64 0, .i .u64 0, .i .u64 0] ∧ Stay nowhere h g) 4 ?_ ?_
  · simp (disch := first | omega | (simp only [lnv]; omega)) only [wlk, ↓get_put', ↓reduceIte, seval]
    refine ⟨0, by omega, by omega, ?_, ?_, ?_, ?_, ?_, ?_, o2, o1, s1.trans s2⟩ <;> first | trivial | rfl
  rintro J hJ m t g ⟨q, hq, rfl, e1, e4, e5, e6, e7, e15, og, og1, st⟩
  have hqb : (q : Int) * (b : Int) = ((q * b : Nat) : Int) := by simp
  have hqb2 : q * b ≤ 4 * 4294967296 := Nat.mul_le_mul hq (by omega)
  have hk : ((a : Int) + ((q * b : Nat) : Int)) % ((n : Int) * 8) = ((spot key n q : Nat) : Int) := by rw [hsp, Int.mul_comm]; simp
  have hkl : spot key n q < 8 * n := by rw [hsp]; exact Nat.mod_lt _ (by omega)
  repeat' (first
    | refine St.h ?_
    | simp (disch := first | omega | (simp only [lnv]; omega)) only [wlk, ↓get_put', ↓reduceIte, seval, e1, e4, e5, e6, e7, e15, wrap_u64s, hqb, hk, Int.toNat_natCast]
    | (with_reducible (first | apply cd_split | apply gd_split)) <;> (intro hc; (try simp only [hcn] at hc); (try simp only [hc]); (try simp only [hcl] at hc); try omega))
  · refine ST.own (y := .i .u64 (spot key n q : Int)) og rfl rfl (by omega) (by omega) fun g3 o3 s3 => ?_
    rw [fillV_set (by omega)] at o3
    have og1 := og1.stay s3 (sv_ne hb)
    repeat' (first
      | refine St.h ?_
      | simp (disch := first | omega | (simp only [lnv]; omega)) only [wlk, ↓get_put', ↓reduceIte, seval, e1, e4, e5, e6, e7, e15]
      | (with_reducible (first | apply cd_split | apply gd_split)) <;> (intro hc; (try simp only [hcn] at hc); (try simp only [hc]); (try simp only [hcl] at hc); try omega))
    refine lp_next hJ (4 - (q + 1)) (by omega) ⟨q + 1, by omega, rfl, ?_, ?_, ?_, ?_, ?_, ?_, o3, og1, st.past' s3 fun i hi => by rw [hi]; have := s1.next; omega⟩
    all_goals first | (simp (disch := first | omega | (simp only [lnv]; omega)) only [wlk, ↓get_put', ↓reduceIte, seval, e1, e4, e5, e6, e7]; done) | (simp (disch := first | omega | (simp only [lnv]; omega)) only [wlk, ↓get_put', ↓reduceIte, seval]; rfl)
  · obtain rfl : q = 4 := by omega
    have e44 : ((fillV key n 4).drop 0).take 4 = fillV key n 4 := rfl
    have hfl : (fillV key n 4).length = 4 := rfl
    repeat' (first
      | refine St.h ?_
      | simp (disch := first | omega | (simp only [lnv]; omega)) only [wlk, ↓get_put', ↓reduceIte, seval, e4, e7, og.row.ln, e44]
      | (with_reducible (first | apply cd_split | apply gd_split)) <;> (intro hc; (try simp only [hcn] at hc); (try simp only [hc]); (try simp only [hcl] at hc); try omega))
    refine ST.all (vs := fillV key n 4) (fin := 4) og1 rfl rfl (by simp [fillV]) (by simp [fillV]) fun hz oz sz => ?_
    repeat' (first
      | refine St.h ?_
      | simp (disch := first | omega | (simp only [lnv]; omega)) only [wlk, ↓get_put', ↓reduceIte, seval, oz.ra4, e4]
      | (with_reducible (first | apply cd_split | apply gd_split)) <;> (intro hc; (try simp only [hcn] at hc); (try simp only [hc]); (try simp only [hcl] at hc); try omega))
    subst hQ
    exact ⟨rfl, st.past' sz fun i hi => by rw [hi]; exact Nat.le_refl _⟩
theorem make_ok {h : H} {v : V} {L : List (List UInt8)} (hL : Tl h v L) (hl : L.length ≤ 1000) (hs : ∀ k ∈ L, k.length ≤ 1000000) (hf : B.val h.floor ≤ B.val h.next) : FnOk Try.prog 28 [v] h fun y h' => y = sv (sieveB L) ∧ Stay nowhere h h' := by
  refine fn_go c28 (by intro hb; cases hb) (by simp) (by simp) fun Q hQ => ?_
  simp only [slotsF, Nat.reduceAdd]
  have hn : (max (L.length : Int) 8).toNat = max 8 L.length := by omega
  have hsl : (sieveB L).length = max 8 L.length := sieveB_len L
  generalize hnn : max 8 L.length = n at *
  have hn8 : 8 ≤ n := by omega
  have hn1 : n ≤ 1000 := by omega
  repeat' (first
    | refine St.h ?_
    | simp (disch := first | omega | (simp only [lnv]; omega)) only [wlk, ↓get_put', ↓reduceIte, seval, hL.ln, hn]
    | (with_reducible (first | apply cd_split | apply gd_split)) <;> (intro hc; (try simp only [hcn] at hc); (try simp only [hc]); (try simp only [hcl] at hc); try omega))
  refine AL.own (by rw [repL_bv]; simp; omega) hf fun h1 s1 n1 o1 => ?_
  rw [repL_bv] at o1
  have hf1 := s1.fl hf
  have hz : (List.replicate n (0 : UInt8)).length = n := by simp
  have hsv : putKeys (List.replicate n 0) L = sieveB L := by unfold sieveB; rw [hnn]
  generalize List.replicate n (0 : UInt8) = Z at *
  repeat' (first
    | refine St.h ?_
    | simp (disch := first | omega | (simp only [lnv]; omega)) only [wlk, ↓get_put', ↓reduceIte, seval, hL.ln, hn]
    | (with_reducible (first | apply cd_split | apply gd_split)) <;> (intro hc; (try simp only [hcn] at hc); (try simp only [hc]); (try simp only [hcl] at hc); try omega))
  refine Ok.lp (fun m t g => ∃ i : Nat, i ≤ L.length ∧ m = L.length - i ∧ get 12 t = v ∧ get 13 t = .i .i64 (L.length : Int) ∧ get 3 t = .l h.next 0 0 n n (some n) ∧ get 14 t = .i .i64 (i : Int) ∧ Ev.Own g h.next ((putKeys Z (L.take i)).map bv) ∧ Stay nowhere h g) L.length ?_ ?_
  · simp (disch := first | omega | (simp only [lnv]; omega)) only [wlk, ↓get_put', ↓reduceIte, seval, hn]
    refine ⟨0, by omega, by omega, ?_, ?_, ?_, ?_, o1, s1⟩ <;> first | trivial | rfl
  rintro I hI m t g ⟨i, hi, rfl, f0, f1, f3, f4, og, st⟩
  have hfg := st.fl hf
  have hLg := hL.grow st
  generalize hS : putKeys Z (L.take i) = S at *
  have hSl : S.length = n := by rw [← hS, putKeys_len, hz]
  repeat' (first
    | refine St.h ?_
    | simp (disch := first | omega | (simp only [lnv]; omega)) only [wlk, ↓get_put', ↓reduceIte, seval, f0, f1, f3, f4, hL.ln, hL.ix, hLg.ld, Int.toNat_natCast]
    | (with_reducible (first | apply cd_split | apply gd_split)) <;> (intro hc; (try simp only [hcn] at hc); (try simp only [hc]); (try simp only [hcl] at hc); try omega))
  · have hki : (L.getD i []).length ≤ 1000000 := hs _ (by rw [show L.getD i [] = L[i] by simp [List.getD, show i < L.length by omega]]; simp)
    generalize hkk : L.getD i [] = key at *
    refine CL.stay (bitsOf_ok hki (by omega) (by omega) hfg) fun g1 t1 => ?_
    have og := og.stay t1 fun h => h
    have st := st.trans t1
    repeat' (first
      | refine St.h ?_
      | simp (disch := first | omega | (simp only [lnv]; omega)) only [wlk, ↓get_put', ↓reduceIte, seval]
      | (with_reducible (first | apply cd_split | apply gd_split)) <;> (intro hc; (try simp only [hcn] at hc); (try simp only [hc]); (try simp only [hcl] at hc); try omega))
    refine Ok.lp (fun m t g => ∃ q : Nat, q ≤ 4 ∧ m = 4 - q ∧ get 12 t = v ∧ get 13 t = .i .i64 (L.length : Int) ∧ get 3 t = .l h.next 0 0 n n (some n) ∧ get 14 t = .i .i64 (i : Int) ∧ get 21 t = .a (spotsV key n) ∧ get 22 t = .i .i64 (q : Int) ∧ Ev.Own g h.next ((putKey S key q).map bv) ∧ Stay nowhere h g) 4 ?_ ?_
    · simp (disch := first | omega | (simp only [lnv]; omega)) only [wlk, ↓get_put', ↓reduceIte, seval, f0, f1, f3, f4]
      refine ⟨0, by omega, by omega, ?_, ?_, ?_, ?_, ?_, ?_, og, st⟩ <;> first | trivial | rfl
    rintro J hJ m t2 g2 ⟨q, hq, rfl, e0, e1, e3, e4, e5, e7, o2, st2⟩
    have hsa := fun hq => spotsV_at (key := key) (n := n) (q := q) hq
    have hsn : (spotsV key n).length = 4 := rfl
    have hK : (putKey S key q).length = n := by rw [putKey_len, hSl]
    have hkl : spot key n q < 8 * n := Nat.mod_lt _ (by omega)
    have hpk := putKey_succ S key q
    rw [hSl] at hpk
    generalize spot key n q = k at *
    have hk8 : ((k : Int) / 8).toNat = k / 8 := by omega
    generalize hT : putKey S key q = T at *
    have hba := bv_at (s := T) (j := k / 8) (by omega)
    have hbt := (T.getD (k / 8) 0).toNat_lt
    have h2k : 2 ^ (k % 8) < 256 := Nat.pow_lt_pow_right (a := 2) (n := 8) (by omega) (by omega)
    have hpb := pow_byte (k := k)
    have hor := byte_or (x := (T.getD (k / 8) 0).toNat) (i := k % 8) (by omega) (by omega)
    have hpt : putBit T k = T.set (k / 8) (UInt8.ofNat ((T.getD (k / 8) 0).toNat ||| 2 ^ (k % 8))) := rfl
    generalize 2 ^ (k % 8) = w at *
    repeat' (first
      | refine St.h ?_
      | simp (disch := first | omega | (simp only [lnv]; omega)) only [wlk, ↓get_put', ↓reduceIte, seval, e0, e1, e3, e4, e5, e7, hsa, spotsV_len, hk8, o2.row.l1, hba, hpb, Int.toNat_natCast, List.length_map]
      | (with_reducible (first | apply cd_split | apply gd_split)) <;> (intro hc; (try simp only [hcn] at hc); (try simp only [hc]); (try simp only [hcl] at hc); try omega))
    · refine ST.own (y := bv (UInt8.ofNat ((T.getD (k / 8) 0).toNat ||| w))) o2 ?_ rfl (by omega) (by omega) fun g3 o3 s3 => ?_
      · rw [← bv_ofNat, Nat.mod_eq_of_lt hor]; rfl
      repeat' (first
        | refine St.h ?_
        | simp (disch := first | omega | (simp only [lnv]; omega)) only [wlk, ↓get_put', ↓reduceIte, seval, e0, e1, e3, e4, e5, e7]
        | (with_reducible (first | apply cd_split | apply gd_split)) <;> (intro hc; (try simp only [hcn] at hc); (try simp only [hc]); (try simp only [hcl] at hc); try omega))
      refine lp_next hJ (4 - (q + 1)) (by omega) ⟨q + 1, by omega, rfl, ?_, ?_, ?_, ?_, ?_, ?_, ?_, st2.past' s3 fun i hi => by rw [hi]; exact Nat.le_refl _⟩
      all_goals first | (simp (disch := first | omega | (simp only [lnv]; omega)) only [wlk, ↓get_put', ↓reduceIte, seval, e0, e1, e3, e4, e5, e7]; done) | (simp (disch := first | omega | (simp only [lnv]; omega)) only [wlk, ↓get_put', ↓reduceIte, seval]; rfl) | skip
      rw [hpk, hpt, List.map_set]; exact o3
    · obtain rfl : q = 4 := by omega
      have hnx : putKeys Z (L.take (i + 1)) = T := by
        have : L.take (i + 1) = L.take i ++ [key] := by rw [List.take_succ_eq_append_getElem (by omega), ← hkk]; simp [List.getD, show i < L.length by omega]
        rw [this, putKeys_snoc, hS, hT]
      repeat' (first
        | refine St.h ?_
        | simp (disch := first | omega | (simp only [lnv]; omega)) only [wlk, ↓get_put', ↓reduceIte, seval, e0, e1, e3, e4]
        | (with_reducible (first | apply cd_split | apply gd_split)) <;> (intro hc; (try simp only [hcn] at hc); (try simp only [hc]); (try simp only [hcl] at hc); try omega))
      refine lp_next hI (L.length - (i + 1)) (by omega) ⟨i + 1, by omega, rfl, ?_, ?_, ?_, ?_, by rw [hnx]; exact o2, st2⟩
      · simp (disch := first | omega | (simp only [lnv]; omega)) only [wlk, ↓get_put', ↓reduceIte, seval, e0]
      · simp (disch := first | omega | (simp only [lnv]; omega)) only [wlk, ↓get_put', ↓reduceIte, seval, e1]
      · simp (disch := first | omega | (simp only [lnv]; omega)) only [wlk, ↓get_put', ↓reduceIte, seval, e3]
      · simp (disch := first | omega | (simp only [lnv]; omega)) only [wlk, ↓get_put', ↓reduceIte, seval]; rfl
  · obtain rfl : i = L.length := by omega
    rw [List.take_length, hsv] at hS
    have hL2 := og.lst (some n)
    rw [List.length_map, hSl] at hL2
    repeat' (first
      | refine St.h ?_
      | simp (disch := first | omega | (simp only [lnv]; omega)) only [wlk, ↓get_put', ↓reduceIte, seval, f0, f1, f3, f4, hL2.bs (by intro e; rw [e] at hSl; simp at hSl; omega)]
      | (with_reducible (first | apply cd_split | apply gd_split)) <;> (intro hc; (try simp only [hcn] at hc); (try simp only [hc]); (try simp only [hcl] at hc); try omega))
    subst hQ
    exact ⟨by rw [hS], st⟩
theorem may_ok {h : H} {s key : List UInt8} (hs : s.length ≤ 1000000) (hk : key.length ≤ 1000000) (hf : B.val h.floor ≤ B.val h.next) : FnOk Try.prog 42 [sv s, sv key] h fun y h' => y = .b (mayB s key) ∧ Stay nowhere h h' := by
  refine fn_go c42 (by intro hb; cases hb) (by simp) (by simp) fun Q hQ => ?_
  simp only [slotsF, Nat.reduceAdd]
  have hmay0 : s.length = 0 → mayB s key = true := fun e => by unfold mayB; rw [if_pos e]
  by_cases hs0 : s = []
  · subst hs0
    repeat' (first
      | refine St.h ?_
      | simp (disch := first | omega | (simp only [lnv]; omega)) only [wlk, ↓get_put', ↓reduceIte, seval]
      | (with_reducible (first | apply cd_split | apply gd_split)) <;> (intro hc; (try simp only [hcn] at hc); (try simp only [hc]); (try simp only [hcl] at hc); try omega))
    subst hQ; exact ⟨by rw [hmay0 rfl], Stay.refl _ _⟩
  have hsl : 0 < s.length := by cases s with | nil => exact absurd rfl hs0 | cons c r => simp
  repeat' (first
    | refine St.h ?_
    | simp (disch := first | omega | (simp only [lnv]; omega)) only [wlk, ↓get_put', ↓reduceIte, seval, hs0]
    | (with_reducible (first | apply cd_split | apply gd_split)) <;> (intro hc; (try simp only [hcn] at hc); (try simp only [hc]); (try simp only [hcl] at hc); try omega))
  refine CL.stay (bitsOf_ok hk (by omega) (by omega) hf) fun g1 t1 => ?_
  have hmay1 : mayB s key = (List.range 4).all fun q => bitB s (spot key s.length q) := by unfold mayB; rw [if_neg (by omega)]
  repeat' (first
    | refine St.h ?_
    | simp (disch := first | omega | (simp only [lnv]; omega)) only [wlk, ↓get_put', ↓reduceIte, seval]
    | (with_reducible (first | apply cd_split | apply gd_split)) <;> (intro hc; (try simp only [hcn] at hc); (try simp only [hc]); (try simp only [hcl] at hc); try omega))
  refine Ok.lp (fun m t g => ∃ q : Nat, q ≤ 4 ∧ m = 4 - q ∧ g1 = g ∧ (∀ p, p < q → bitB s (spot key s.length p) = true) ∧ get 0 t = sv s ∧ get 5 t = .i .i64 (q : Int) ∧ get 13 t = .a (spotsV key s.length) ∧ get 14 t = .i .i64 (q : Int)) 4 ?_ ?_
  · simp (disch := first | omega | (simp only [lnv]; omega)) only [wlk, ↓get_put', ↓reduceIte, seval]
    refine ⟨0, by omega, by omega, ?_, ?_, ?_, ?_, ?_, ?_⟩ <;> first | trivial | rfl | (intro p h; omega)
  rintro J hJ m t2 g2 ⟨q, hq, rfl, rfl, hb, e0, e5, e6, e7⟩
  have hsa := fun hq => spotsV_at (key := key) (n := s.length) (q := q) hq
  have hsn : (spotsV key s.length).length = 4 := rfl
  have hkl : spot key s.length q < 8 * s.length := Nat.mod_lt _ (by omega)
  generalize hkk : spot key s.length q = k at *
  have hk8 : ((k : Int) / 8).toNat = k / 8 := by omega
  have hbt := (s.getD (k / 8) 0).toNat_lt
  have hrd := bit_rd s k
  have hw2 : ((2 ^ ((k : Int) % 8).toNat : Nat) : Int) = ((2 ^ (k % 8) : Nat) : Int) := by rw [show ((k : Int) % 8).toNat = k % 8 by omega]
  have hdv : ((s.getD (k / 8) 0).toNat : Int) / ((2 ^ (k % 8) : Nat) : Int) = (((s.getD (k / 8) 0).toNat / 2 ^ (k % 8) : Nat) : Int) := by simp
  have hdl : (s.getD (k / 8) 0).toNat / 2 ^ (k % 8) ≤ 255 := Nat.le_trans (Nat.div_le_self _ _) (by omega)
  generalize (s.getD (k / 8) 0).toNat / 2 ^ (k % 8) = w at *
  have hw1 : w &&& 1 = 0 ∨ w &&& 1 = 1 := by rw [Nat.and_one_is_mod]; omega
  repeat' (first
    | refine St.h ?_
    | simp (disch := first | omega | (simp only [lnv]; omega)) only [wlk, ↓get_put', ↓reduceIte, seval, e0, e5, e6, e7, hsa, spotsV_len, hk8, hw2, hdv, Int.toNat_natCast]
    | (with_reducible (first | apply cd_split | apply gd_split)) <;> (intro hc; (try simp only [hcn] at hc); (try simp only [hc]); (try simp only [hcl] at hc); try omega))
  · have hw : bitB s k = true := by rw [hrd]; exact decide_eq_true (by omega)
    refine lp_next hJ (4 - (q + 1)) (by omega) ⟨q + 1, by omega, rfl, rfl, fun p hp => ?_, ?_, ?_, ?_, ?_⟩
    · by_cases e : p = q
      · subst e; rw [hkk]; exact hw
      · exact hb p (by omega)
    all_goals first | (simp (disch := first | omega | (simp only [lnv]; omega)) only [wlk, ↓get_put', ↓reduceIte, seval, e0, e5, e6, e7]; done) | (simp (disch := first | omega | (simp only [lnv]; omega)) only [wlk, ↓get_put', ↓reduceIte, seval]; rfl)
  · have hw : bitB s k = false := by rw [hrd]; exact decide_eq_false (by omega)
    rw [decide_eq_false (by omega)] at *
    subst hQ
    refine ⟨?_, t1⟩
    rw [hmay1, List.all_eq_false.2 ⟨q, by rw [List.mem_range]; omega, by rw [hkk, hw]; decide⟩]
  · obtain rfl : q = 4 := by omega
    subst hQ
    refine ⟨?_, t1⟩
    rw [hmay1, List.all_eq_true.2]
    · rfl
    intro p hp
    rw [List.mem_range] at hp
    exact hb p hp
end Go.Proofs.Ytiingkpdodbldaa

set_option linter.all false
namespace Go.Ev
open Go
theorem CPS.own {P : Program} {h : H} {N : Nx} {id : B} {el fin : Nat} {xs : List V} {s : List UInt8} {cap : Option Nat} (o : OwnE h id el xs) (hne : 1 ≤ s.length) (hj : s.length ≤ fin) (hfit : s.length < 2 ^ 37)
    (k : ∀ h', OwnE h' id el (s.map bv) → Stay (fun i => i = id) h h' → N.go P (.i .i64 (s.length : Int)) h') : CPS P (.l id 0 0 s.length fin cap) (sv s) h N := by
  obtain ⟨blk, a1, a2, a3, a4, aE, a5, a6, a7⟩ := o
  obtain ⟨next, floor, heap⟩ := h
  obtain ⟨cur, min, sz, cs, bel, fr⟩ := blk
  simp only at a2 a3 a4 aE a7
  subst a2; subst a3; subst a4; subst aE
  have hvl : (s.map bv).length = s.length := List.length_map _
  obtain ⟨tr, t1, t2, t3⟩ := setList_fine (s.map bv) 0 cs (by omega)
  obtain ⟨hp, s1, s2, s3⟩ := setK_ok id (⟨0, 0, sz, tr, bel, 0⟩ : Blk) heap
  have e1 : B.geB floor id = true := by cases floor <;> first | rfl | (show Nat.ble _ _ = true; rw [Nat.ble_eq]; exact a5)
  have e2 : Nat.ble (Nat.add 0 (s.map bv).length) fin = true := by rw [Nat.ble_eq]; show 0 + (s.map bv).length ≤ fin; omega
  have e4 : frOk 0 0 = true := rfl
  have e5 : Nat.beq 0 0 = true := rfl
  have e6 : Nat.ble 0 0 = true := rfl
  have a1' : heap.get id = some ⟨0, 0, sz, cs, bel, 0⟩ := a1
  refine hm_of (v := .i .i64 (s.length : Int)) (h' := ⟨next, floor, hp⟩) (fun q => ?_) (k _ ⟨_, s2, rfl, rfl, rfl, rfl, a5, a6, fun i z hz => by have := t2 i z hz; rwa [Nat.zero_add] at this⟩ ⟨rfl, Nat.le_refl _, fun i _ hi => s3 i hi⟩)
  show natC s.length (fun _ => false) (fun _ => copyToS (sv s) ⟨next, floor, heap⟩ q id 0 0 s.length fin) = _
  obtain ⟨m, hm⟩ : ∃ m, s.length = m + 1 := ⟨s.length - 1, by omega⟩
  have hc : ∀ (z : Unit → Bool) (f : Nat → Bool), natC s.length z f = f (m + 1) := fun z f => by rw [hm]; rfl
  rw [hc]
  unfold copyToS
  show unpK s.length (pk s) [] (fun vs => ifK (Nat.beq s.length s.length) fun _ => store ⟨next, floor, heap⟩ id 0 0 fin vs fun h => q (.i .i64 (.ofNat s.length)) h) = _
  rw [unpK_map _ _ _ _ rfl, List.append_nil, Nat.beq_refl, ifK_true]
  simp only [store, hK_mk, a1', optK_some, blkK_mk, e5, e6, e1, e2, allOne_bv, e4, ifK_true]
  rw [t1, s1]; rfl
theorem US.own {P : Program} {h : H} {N : Nx} {id : B} {el fin : Nat} {a : List UInt8} (o : OwnE h id el (a.map bv)) (hne : 1 ≤ a.length) (hj : a.length ≤ fin) (hl : a.length ≤ 1048576)
    (k : ∀ h', Stay (fun i => i = id) h h' → N.go P (sv a) h') : US P el (.p id 0 0 fin) (.i .i64 (a.length : Int)) h N := by
  have hrow : Row h id 0 0 (a.map bv) := o.own.row
  obtain ⟨blk, a1, a2, a3, a4, aE, a5, a6, a7⟩ := o
  have hld : ∀ k, loadN h id 0 0 fin a.length k = k (a.map bv) := fun k => by
    have := loadN_row (n := (a.map bv).length) (fin := fin) hrow rfl (by intro h0; have := congrArg List.length h0; simp at this; subst this; simp at hne) (by rw [List.length_map]; omega) k
    rwa [List.length_map] at this
  obtain ⟨next, floor, heap⟩ := h
  obtain ⟨cur, min, sz, cells, bel, fr⟩ := blk
  simp only at a2 a3 a4 aE a7
  subst a2; subst a3; subst a4; subst aE
  obtain ⟨hp, s1, s2, s3⟩ := setK_ok id (⟨0, 0, sz, cells, bel, a.length + 2⟩ : Blk) heap
  have a1' : heap.get id = some ⟨0, 0, sz, cells, bel, 0⟩ := a1
  have g2 : Nat.beq bel bel = true := Nat.beq_refl bel
  have g3 : B.geB floor id = true := by cases floor <;> first | rfl | (show Nat.ble _ _ = true; rw [Nat.ble_eq]; exact a5)
  have g4 : Nat.ble 1 a.length = true := by rw [Nat.ble_eq]; exact hne
  have g5 : Nat.ble a.length 1048576 = true := by rw [Nat.ble_eq]; exact hl
  have g6 : Nat.beq 0 0 = true := rfl
  have g7 : Nat.ble 0 0 = true := rfl
  refine US.of (v := sv a) (h' := ⟨next, floor, hp⟩) (fun q => ?_) (k _ ⟨rfl, Nat.le_refl _, fun i _ hi => s3 i hi⟩)
  simp only [vI_i, kdEq_self, ifK_true, natK_cast, vPZ_p]
  unfold uStrK
  rw [g6, ifK_true, g4, ifK_true, g5, ifK_true]
  simp only [elK, hK_mk, a1', optK_some, blkK_mk, g7, g2, ifK_true]
  rw [hld, pack_bv]
  have e0 : 0 * 256 ^ a.length + pk a = pk a := by rw [Nat.zero_mul, Nat.zero_add]
  rw [e0]
  simp only [freezeK, hK_mk, a1', optK_some, blkK_mk, g3, ifK_true]
  show fN (Nat.add a.length 2) (fun fr' => T.setK id ⟨0, 0, sz, cells, bel, fr'⟩ heap fun heap => q (.s a.length (pk a)) ⟨next, floor, heap⟩) = _
  rw [fN_eq]
  exact s1 _
theorem Own.ra3 {h : H} {Q : V → H → Prop} {id : B} {a b c : V} {us : List V} (o : Own h id [a, b, c]) : RA Q 3 (.p id 0 0 3) us h = Q (one (.a [a, b, c] :: us)) h := o.ra rfl (by omega) (by omega)
end Go.Ev

set_option maxRecDepth 100000
set_option maxHeartbeats 8000000
set_option linter.all false
namespace Go.Proofs.Ytiingkpdodbldaa
open Go Go.Ev
theorem isKey_ok {h : H} {s : List UInt8} (hs : s.length ≤ 1000000) : FnOk Try.prog 83 [sv s] h fun y h' => y = .b (decide (1 ≤ s.length ∧ s.length ≤ 13)) ∧ h' = h := by
  refine fn_go c83 (by intro hb; cases hb) (by simp) (by simp) fun Q hQ => ?_
  simp only [slotsF, Nat.reduceAdd]
  repeat' (first
    | refine St.h ?_
    | simp (disch := first | omega | (simp only [lnv]; omega)) only [wlk, ↓get_put', ↓reduceIte, seval]
    | (with_reducible (first | apply cd_split | apply gd_split)) <;> (intro hc; (try simp only [hcn] at hc); (try simp only [hc]); (try simp only [hcl] at hc); try omega))
  all_goals
    subst hQ
    refine ⟨?_, rfl⟩
    congr 1
    try (first
      | (symm; rw [decide_eq_true_eq]; omega)
      | (symm; rw [decide_eq_false_iff_not]; omega)
      | (apply decide_eq_decide.2; omega))
theorem isBelow_ok {h : H} {k to : List UInt8} : FnOk Try.prog 46 [sv k, sv to] h fun y h' => y = .b (decide (to = []) || Op.bytesLess k to) ∧ h' = h := by
  refine fn_go c46 (by intro hb; cases hb) (by simp) (by simp) fun Q hQ => ?_
  simp only [slotsF, Nat.reduceAdd]
  repeat' (first
    | refine St.h ?_
    | simp (disch := first | omega | (simp only [lnv]; omega)) only [wlk, ↓get_put', ↓reduceIte, seval]
    | (with_reducible (first | apply cd_split | apply gd_split)) <;> (intro hc; (try simp only [hcn] at hc); (try simp only [hc]); (try simp only [hcl] at hc); try omega))
  all_goals
    subst hQ
    refine ⟨?_, rfl⟩
    first
      | (rw [decide_eq_true (by assumption)]; rfl)
      | (rw [decide_eq_false (by assumption)]; rfl)
section
variable {h : H} {lo : Nat} {id : B} {U : B → Prop} {a : List UInt8}
theorem blen_ok (s : Sb h lo 58 5 id U a) : FnOk Try.prog 25 [.p id 0 0 2] h fun y h' => y = .i .i64 (a.length : Int) ∧ h' = h := by
  refine fn_go c25 (by intro hb; cases hb) (by simp) (by simp) fun Q hQ => ?_
  simp only [slotsF, Nat.reduceAdd]
  obtain ⟨⟨adr, w, o, ha, b, hw, hn⟩, hself, hlo⟩ := s
  have or := o.own.row
  have hln := fun g N => b.lst.ln (P := Try.prog) (h := g) (N := N)
  rw [List.length_map] at hln
  repeat' (first
    | refine St.h ?_
    | simp (disch := first | omega | (simp only [lnv]; omega)) only [wlk, ↓get_put', ↓reduceIte, seval, or.l1, hln]
    | (with_reducible (first | apply cd_split | apply gd_split)) <;> (intro hc; (try simp only [hcn] at hc); (try simp only [hc]); (try simp only [hcl] at hc); try omega))
  subst hQ
  exact ⟨rfl, rfl⟩
theorem bwrite_ok {v : V} {c : List UInt8} {id2 : B} (s : Sb h lo 58 5 id U a) (hv : v = .l id2 0 0 c.length c.length (some c.length)) (o2 : Ev.Own h id2 (c.map bv)) (hu : ¬ U id2) (hc : 1 ≤ c.length) (hl : a.length + c.length ≤ 1048576) (hf : B.val h.floor ≤ B.val h.next) : FnOk Try.prog 30 [.p id 0 0 2, v] h fun y h' => ∃ U', Sb h' lo 58 5 id U' (a ++ c) ∧ Stay U h h' ∧ ∀ i, U' i → U i ∨ B.val h.next ≤ B.val i := by
  refine fn_go c30 (by intro hb; cases hb) (by simp) (by simp) fun Q hQ => ?_
  simp only [slotsF, Nat.reduceAdd]
  repeat' (first
    | refine St.h ?_
    | simp (disch := first | omega | (simp only [lnv]; omega)) only [wlk, ↓get_put', ↓reduceIte, seval]
    | (with_reducible (first | apply cd_split | apply gd_split)) <;> (intro hc; (try simp only [hcn] at hc); (try simp only [hc]); (try simp only [hcl] at hc); try omega))
  refine CL.mk (copyCheck_ok s) ?_
  rintro _ h1 ⟨⟨⟨adr, w, o, ha, b, hw, hn⟩, hself, hlo⟩, st1⟩
  have or := o.own.row
  have o2 := o2.stay st1 hu
  subst hv
  repeat' (first
    | refine St.h ?_
    | simp (disch := first | omega | (simp only [lnv]; omega)) only [wlk, ↓get_put', ↓reduceIte, seval, or.l1]
    | (with_reducible (first | apply cd_split | apply gd_split)) <;> (intro hc; (try simp only [hcn] at hc); (try simp only [hc]); (try simp only [hcl] at hc); try omega))
  refine AP.buf (vs := c.map bv) (cnt := c.length) b (new_row o2.row (by simp) (by omega) (by omega) (by simp)) (st1.fl hf) (by omega) (by simp) (allOne_bv c) (by simpa using hl) fun w' h2 b2 st2 hw2 tp => ?_
  rw [← List.map_append] at b2
  have o3 := o.stay st2 hn
  obtain ⟨c1, c2, _⟩ := buf_cells b2
  repeat' (first
    | refine St.h ?_
    | simp (disch := first | omega | (simp only [lnv]; omega)) only [wlk, ↓get_put', ↓reduceIte, seval]
    | (with_reducible (first | apply cd_split | apply gd_split)) <;> (intro hc; (try simp only [hcn] at hc); (try simp only [hc]); (try simp only [hcl] at hc); try omega))
  refine ST.ownE o3 c1 c2 (by omega) (by omega) fun h3 o3 st3 => ?_
  have hgl : ∀ g N, H1 Try.prog gLen (.l id2 0 0 c.length c.length (some c.length)) g N = N.go Try.prog (.i .i64 (c.length : Int)) g := fun g N => gLen_l
  repeat' (first
    | refine St.h ?_
    | simp (disch := first | omega | (simp only [lnv]; omega)) only [wlk, ↓get_put', ↓reduceIte, seval]
    | (with_reducible (first | apply cd_split | apply gd_split)) <;> (intro hc; (try simp only [hcn] at hc); (try simp only [hc]); (try simp only [hcl] at hc); try omega))
  subst hQ
  exact bld_end hself hlo hw hn o.lt ha st1 b2 st2 hw2 o3 st3
end
theorem lclone_ok {h : H} {s : List UInt8} (hs : s.length ≤ 1000000) (hf : B.val h.floor ≤ B.val h.next) : FnOk Try.prog 63 [sv s] h fun y h' => y = sv s ∧ Stay nowhere h h' := by
  refine fn_go c63 (by intro hb; cases hb) (by simp) (by simp) fun Q hQ => ?_
  simp only [slotsF, Nat.reduceAdd]
  repeat' (first
    | refine St.h ?_
    | simp (disch := first | omega | (simp only [lnv]; omega)) only [wlk, ↓get_put', ↓reduceIte, seval, Int.toNat_natCast]
    | (with_reducible (first | apply cd_split | apply gd_split)) <;> (intro hc; (try simp only [hcn] at hc); (try simp only [hc]); (try simp only [hcl] at hc); try omega))
  · subst hQ
    have : s = [] := List.eq_nil_of_length_eq_zero (by omega)
    subst this
    exact ⟨rfl, Stay.refl _ _⟩
  refine AL.ownE (by rw [repL_bv]; simp; omega) hf fun h1 s1 n1 o1 => ?_
  have hf1 := s1.fl hf
  repeat' (first
    | refine St.h ?_
    | simp (disch := first | omega | (simp only [lnv]; omega)) only [wlk, ↓get_put', ↓reduceIte, seval, Int.toNat_natCast]
    | (with_reducible (first | apply cd_split | apply gd_split)) <;> (intro hc; (try simp only [hcn] at hc); (try simp only [hc]); (try simp only [hcl] at hc); try omega))
  refine CPS.own o1 (by omega) (by omega) (by omega) fun h2 o2 s2 => ?_
  repeat' (first
    | refine St.h ?_
    | simp (disch := first | omega | (simp only [lnv]; omega)) only [wlk, ↓get_put', ↓reduceIte, seval, Int.toNat_natCast, or_ustr]
    | (with_reducible (first | apply cd_split | apply gd_split)) <;> (intro hc; (try simp only [hcn] at hc); (try simp only [hc]); (try simp only [hcl] at hc); try omega))
  refine US.own o2 (by omega) (by omega) (by omega) fun h3 s3 => ?_
  repeat' (first
    | refine St.h ?_
    | simp (disch := first | omega | (simp only [lnv]; omega)) only [wlk, ↓get_put', ↓reduceIte, seval]
    | (with_reducible (first | apply cd_split | apply gd_split)) <;> (intro hc; (try simp only [hcn] at hc); (try simp only [hc]); (try simp only [hcl] at hc); try omega))
  subst hQ
  exact ⟨rfl, (s1.past' s2 fun i hi => by rw [hi]; exact Nat.le_refl _).past' s3 fun i hi => by rw [hi]; exact Nat.le_refl _⟩
theorem clone_ok {h : H} {s : List UInt8} (hs : s.length ≤ 1000000) (hf : B.val h.floor ≤ B.val h.next) : FnOk Try.prog 39 [sv s] h fun y h' => y = sv s ∧ Stay nowhere h h' := by
  refine fn_go c39 (by intro hb; cases hb) (by simp) (by simp) fun Q hQ => ?_
  simp only [slotsF, Nat.reduceAdd]
  repeat' (first
    | refine St.h ?_
    | simp (disch := first | omega | (simp only [lnv]; omega)) only [wlk, ↓get_put', ↓reduceIte, seval]
    | (with_reducible (first | apply cd_split | apply gd_split)) <;> (intro hc; (try simp only [hcn] at hc); (try simp only [hc]); (try simp only [hcl] at hc); try omega))
  refine CL.stay (lclone_ok hs hf) fun h1 s1 => ?_
  repeat' (first
    | refine St.h ?_
    | simp (disch := first | omega | (simp only [lnv]; omega)) only [wlk, ↓get_put', ↓reduceIte, seval]
    | (with_reducible (first | apply cd_split | apply gd_split)) <;> (intro hc; (try simp only [hcn] at hc); (try simp only [hc]); (try simp only [hcl] at hc); try omega))
  subst hQ
  exact ⟨rfl, s1⟩
theorem split_ok {h : H} {s : List UInt8} (hs : s.length ≤ 1000000) : FnOk Try.prog 38 [sv s] h fun y h' => y = .tu [sv (splT s).1, sv (splT s).2.1, .i .i64 (splT s).2.2] ∧ h' = h := by
  refine fn_go c38 (by intro hb; cases hb) (by simp) (by simp) fun Q hQ => ?_
  simp only [slotsF, Nat.reduceAdd]
  by_cases h4 : s.length < 4
  · have e : splT s = ([], [], 12) := by unfold splT; rw [if_pos h4]
    repeat' (first
      | refine St.h ?_
      | simp (disch := first | omega | (simp only [lnv]; omega)) only [wlk, ↓get_put', ↓reduceIte, seval]
      | (with_reducible (first | apply cd_split | apply gd_split)) <;> (intro hc; (try simp only [hcn] at hc); (try simp only [hc]); (try simp only [hcl] at hc); try omega))
    subst hQ
    exact ⟨by rw [e], rfl⟩
  obtain ⟨n, hn⟩ : ∃ n : Nat, s.length = n + 4 := ⟨s.length - 4, by omega⟩
  have e4 : (s.length : Int) - 4 = (n : Int) := by omega
  have hdl : (s.drop n).length = 4 := by rw [List.length_drop]; omega
  have hpk : pk (s.drop n) < 4294967296 := by have := pk_lt (s.drop n); rw [hdl] at this; simpa using this
  repeat' (first
    | refine St.h ?_
    | simp (disch := first | omega | (simp only [lnv]; omega)) only [wlk, ↓get_put', ↓reduceIte, seval, e4]
    | (with_reducible (first | apply cd_split | apply gd_split)) <;> (intro hc; (try simp only [hcn] at hc); (try simp only [hc]); (try simp only [hcl] at hc); try omega))
  refine Ok.lp (fun m t g => ∃ j : Nat, m = 4 - j ∧ j ≤ 4 ∧ h = g ∧ get 0 t = sv s ∧ get 5 t = .i .i64 (n : Int) ∧ get 6 t = .i .u64 ((pk ((s.drop n).take j) : Nat) : Int) ∧ get 7 t = .i .i64 ((n + j : Nat) : Int)) 4 ?_ ?_
  · simp (disch := first | omega | (simp only [lnv]; omega)) only [wlk, ↓get_put', ↓reduceIte, seval, e4]
    refine ⟨0, by omega, by omega, trivial, ?_, ?_, ?_, ?_⟩ <;> first | trivial | rfl
  rintro I hI m t g ⟨j, rfl, hj, rfl, f0, f5, f6, f7⟩
  have hpj : pk ((s.drop n).take j) < 256 ^ j := by
    have := pk_lt ((s.drop n).take j)
    rwa [show ((s.drop n).take j).length = j by rw [List.length_take]; omega] at this
  by_cases hjl : j < 4
  · have hp3 : 256 ^ j ≤ 256 ^ 3 := Nat.pow_le_pow_right (by omega) (by omega)
    have hc := (s.getD (n + j) 0).toNat_lt
    have hgd : (s.drop n).getD j 0 = s.getD (n + j) 0 := by simp [List.getD, List.getElem?_drop]
    have n1 : ((pk ((s.drop n).take j) : Int) * 256).toNat ||| (s.getD (n + j) 0).toNat = pk ((s.drop n).take (j + 1)) := by
      rw [show ((pk ((s.drop n).take j) : Int) * 256).toNat = pk ((s.drop n).take j) * 2 ^ 8 by omega, or_add (by omega), pk_take (by omega), hgd]
    repeat' (first
      | refine St.h ?_
      | simp (disch := first | omega | (simp only [lnv]; omega)) only [wlk, ↓get_put', ↓reduceIte, seval, f0, f5, f6, f7, Int.toNat_natCast]
      | (with_reducible (first | apply cd_split | apply gd_split)) <;> (intro hc; (try simp only [hcn] at hc); (try simp only [hc]); (try simp only [hcl] at hc); try omega))
    refine lp_next hI (4 - (j + 1)) (by omega) ⟨j + 1, rfl, by omega, rfl, ?_, ?_, ?_, ?_⟩
    · simp (disch := first | omega | (simp only [lnv]; omega)) only [wlk, ↓get_put', ↓reduceIte, seval, f0]
    · simp (disch := first | omega | (simp only [lnv]; omega)) only [wlk, ↓get_put', ↓reduceIte, seval, f5]
    · simp (disch := first | omega | (simp only [lnv]; omega)) only [wlk, ↓get_put', ↓reduceIte, seval, n1]
    · simp (disch := first | omega | (simp only [lnv]; omega)) only [wlk, ↓get_put', ↓reduceIte, seval, f7]; rfl
  obtain rfl : j = 4 := by omega
  have htk : (s.drop n).take 4 = s.drop n := List.take_of_length_le (by omega)
  rw [htk] at f6
  have hun : splT s = if n < pk (s.drop n) then ([], [], 12) else (s.take (pk (s.drop n)), (s.take n).drop (pk (s.drop n)), 0) := by
    unfold splT; rw [if_neg h4, show s.length - 4 = n by omega]
  generalize pk (s.drop n) = q at *
  repeat' (first
    | refine St.h ?_
    | simp (disch := first | omega | (simp only [lnv]; omega)) only [wlk, ↓get_put', ↓reduceIte, seval, f0, f5, f6, f7, Int.toNat_natCast]
    | (with_reducible (first | apply cd_split | apply gd_split)) <;> (intro hc; (try simp only [hcn] at hc); (try simp only [hc]); (try simp only [hcl] at hc); try omega))
  · subst hQ
    exact ⟨by rw [hun, if_pos (by omega)], rfl⟩
  · subst hQ
    exact ⟨by rw [hun, if_neg (by omega)], rfl⟩
end Go.Proofs.Ytiingkpdodbldaa

set_option maxRecDepth 100000
set_option maxHeartbeats 8000000
set_option linter.all false
namespace Go.Proofs.Ytiingkpdodbldaa
open Go Go.Ev
/-- what takePiece tells -/
structure PcR (ix bl : List UInt8) (p : Pc) (n : Nat) (ok : Bool) : Prop where
  fit : ok = true → 1 ≤ n ∧ n ≤ ix.length ∧ 1 ≤ p.b.length ∧ p.b.length ≤ bl.length
  laid : ∀ b more bm, okB b → b.length ≤ 100 → ix = oneIx b ++ more → bl = blkB b ++ bm → ok = true ∧ p = pcOf b ∧ n = (oneIx b).length
theorem PcR.bad {ix bl : List UInt8} (no : ∀ b more bm, okB b → b.length ≤ 100 → ix = oneIx b ++ more → bl = blkB b ++ bm → False) : PcR ix bl pcZ 0 false :=
  ⟨fun h => (by cases h), fun b more bm h1 h2 h3 h4 => (no b more bm h1 h2 h3 h4).elim⟩
theorem takePiece_ok {h : H} {ix bl : List UInt8} (hi : ix.length ≤ 1000000) (hb : bl.length ≤ 1000000) (hf : B.val h.floor ≤ B.val h.next) : FnOk Try.prog 80 [sv ix, sv bl] h fun y h' =>
    (∃ p n ok, y = .tu [.a (pcC p), .i .i64 ((n : Nat) : Int), .b ok] ∧ PcR ix bl p n ok) ∧ Stay nowhere h h' := by
  refine fn_go c80 (by intro hb; cases hb) (by simp) (by simp) fun Q hQ => ?_
  simp only [slotsF, Nat.reduceAdd]
  repeat' (first
    | refine St.h ?_
    | simp (disch := first | omega | (simp only [lnv]; omega)) only [wlk, ↓get_put', ↓reduceIte, seval]
    | (with_reducible (first | apply cd_split | apply gd_split)) <;> (intro hc; (try simp only [hcn] at hc); (try simp only [hc]); (try simp only [hcl] at hc); try omega))
  refine AL.own (by simp) hf fun h1 s1 n1 o1 => ?_
  repeat' (first
    | refine St.h ?_
    | simp (disch := first | omega | (simp only [lnv]; omega)) only [wlk, ↓get_put', ↓reduceIte, seval]
    | (with_reducible (first | apply cd_split | apply gd_split)) <;> (intro hc; (try simp only [hcn] at hc); (try simp only [hc]); (try simp only [hcl] at hc); try omega))
  refine CL.pure (takeNum_ok hi) ?_
  have hpc : ([sv [], sv [], sv []] : List V) = pcC pcZ := rfl
  have bad : ∀ g, Stay (fun i => i = h.next) h1 g → (∀ b more bm, okB b → b.length ≤ 100 → ix = oneIx b ++ more → bl = blkB b ++ bm → False) → (∃ p n ok, V.tu [.a [sv [], sv [], sv []], .i .i64 0, .b false] = .tu [.a (pcC p), .i .i64 ((n : Nat) : Int), .b ok] ∧ PcR ix bl p n ok) ∧ Stay nowhere h g :=
    fun g sg no => ⟨⟨pcZ, 0, false, rfl, PcR.bad no⟩, s1.past' sg fun q hq => by rw [hq]; exact Nat.le_refl _⟩
  rcases takeN_range ix with hN' | ⟨n, k, hN, n1', k1, k2, k3⟩
  · obtain ⟨f, hN, hfn⟩ : ∃ f, takeN ix = (0, 0, f) ∧ f ≠ 0 := by
      rcases hN' with h | h
      · exact ⟨_, h, by omega⟩
      · exact ⟨_, h, by omega⟩
    rw [hN]; unfold tri
    have hz : (f = 0) = False := eq_false hfn
    repeat' (first
      | refine St.h ?_
      | simp (disch := first | omega | (simp only [lnv]; omega)) only [wlk, ↓get_put', ↓reduceIte, seval, hz]
      | (with_reducible (first | apply cd_split | apply gd_split)) <;> (intro hc; (try simp only [hcn] at hc); (try simp only [hc]); (try simp only [hcl] at hc); try omega))
    refine ST.all o1 rfl rfl (by simp) (by simp) fun g og sg => ?_
    repeat' (first
      | refine St.h ?_
      | simp (disch := first | omega | (simp only [lnv]; omega)) only [wlk, ↓get_put', ↓reduceIte, seval, og.ra3]
      | (with_reducible (first | apply cd_split | apply gd_split)) <;> (intro hc; (try simp only [hcn] at hc); (try simp only [hc]); (try simp only [hcl] at hc); try omega))
    subst hQ
    refine bad g sg fun b more bm h1 h2 h3 h4 => ?_
    rw [h3, one_num h2] at hN
    exact hfn (Prod.mk.inj (Prod.mk.inj hN).2).2.symm
  rw [hN]; unfold tri
  have hdl : (ix.drop k).length = ix.length - k := List.length_drop
  have hsz : ∀ b more bm, okB b → b.length ≤ 100 → ix = oneIx b ++ more → bl = blkB b ++ bm → n = (blkB b).length ∧ k = (numB (blkB b).length).length ∧ 1 ≤ n ∧ n ≤ bl.length := fun b more bm h1 h2 h3 h4 => by
    have hN2 := hN
    rw [h3, one_num h2] at hN2
    have e1 : (blkB b).length = n := Int.ofNat.inj (Prod.mk.inj hN2).1
    have e2 : (numB (blkB b).length).length = k := Int.ofNat.inj (Prod.mk.inj (Prod.mk.inj hN2).2).1
    have := blkB_pos h1
    refine ⟨e1.symm, e2.symm, by omega, by rw [h4, List.length_append]; omega⟩
  repeat' (first
    | refine St.h ?_
    | simp (disch := first | omega | (simp only [lnv]; omega)) only [wlk, ↓get_put', ↓reduceIte, seval, Int.toNat_natCast]
    | (with_reducible (first | apply cd_split | apply gd_split)) <;> (intro hc; (try simp only [hcn] at hc); (try simp only [hc]); (try simp only [hcl] at hc); try omega))
  · refine ST.all o1 rfl rfl (by simp) (by simp) fun g og sg => ?_
    repeat' (first
      | refine St.h ?_
      | simp (disch := first | omega | (simp only [lnv]; omega)) only [wlk, ↓get_put', ↓reduceIte, seval, og.ra3]
      | (with_reducible (first | apply cd_split | apply gd_split)) <;> (intro hc; (try simp only [hcn] at hc); (try simp only [hc]); (try simp only [hcl] at hc); try omega))
    subst hQ
    exact bad g sg fun b more bm h1 h2 h3 h4 => by have := hsz b more bm h1 h2 h3 h4; omega
  · refine ST.all o1 rfl rfl (by simp) (by simp) fun g og sg => ?_
    repeat' (first
      | refine St.h ?_
      | simp (disch := first | omega | (simp only [lnv]; omega)) only [wlk, ↓get_put', ↓reduceIte, seval, og.ra3]
      | (with_reducible (first | apply cd_split | apply gd_split)) <;> (intro hc; (try simp only [hcn] at hc); (try simp only [hc]); (try simp only [hcl] at hc); try omega))
    subst hQ
    exact bad g sg fun b more bm h1 h2 h3 h4 => by have := hsz b more bm h1 h2 h3 h4; omega
  refine CL.pure (takeText_ok (by omega)) ?_
  rcases takeT_range (ix.drop k) with hT' | ⟨tx, j, hT, j1, j2, j3⟩
  · obtain ⟨f, hT, hfn⟩ : ∃ f, takeT (ix.drop k) = ([], 0, f) ∧ f ≠ 0 := by
      rcases hT' with h | h
      · exact ⟨_, h, by omega⟩
      · exact ⟨_, h, by omega⟩
    rw [hT]; unfold triT
    have hz : (f = 0) = False := eq_false hfn
    repeat' (first
      | refine St.h ?_
      | simp (disch := first | omega | (simp only [lnv]; omega)) only [wlk, ↓get_put', ↓reduceIte, seval, hz]
      | (with_reducible (first | apply cd_split | apply gd_split)) <;> (intro hc; (try simp only [hcn] at hc); (try simp only [hc]); (try simp only [hcl] at hc); try omega))
    refine ST.all o1 rfl rfl (by simp) (by simp) fun g og sg => ?_
    repeat' (first
      | refine St.h ?_
      | simp (disch := first | omega | (simp only [lnv]; omega)) only [wlk, ↓get_put', ↓reduceIte, seval, og.ra3]
      | (with_reducible (first | apply cd_split | apply gd_split)) <;> (intro hc; (try simp only [hcn] at hc); (try simp only [hc]); (try simp only [hcl] at hc); try omega))
    subst hQ
    refine bad g sg fun b more bm h1 h2 h3 h4 => ?_
    obtain ⟨e1, e2, _⟩ := hsz b more bm h1 h2 h3 h4
    rw [h3, e2, one_first h1] at hT
    exact hfn (Prod.mk.inj (Prod.mk.inj hT).2).2.symm
  rw [hT]; unfold triT
  have hfi : ∀ b more bm, okB b → b.length ≤ 100 → ix = oneIx b ++ more → bl = blkB b ++ bm → tx = firstK b ∧ j = (textB (firstK b)).length := fun b more bm h1 h2 h3 h4 => by
    obtain ⟨e1, e2, _⟩ := hsz b more bm h1 h2 h3 h4
    have hT2 := hT
    rw [h3, e2, one_first h1] at hT2
    exact ⟨(Prod.mk.inj hT2).1.symm, (Int.ofNat.inj (Prod.mk.inj (Prod.mk.inj hT2).2).1).symm⟩
  have hkj : ((k : Int) + (j : Int)) = ((k + j : Nat) : Int) := by omega
  have hdl2 : (ix.drop (k + j)).length = ix.length - (k + j) := List.length_drop
  repeat' (first
    | refine St.h ?_
    | simp (disch := first | omega | (simp only [lnv]; omega)) only [wlk, ↓get_put', ↓reduceIte, seval, hkj, Int.toNat_natCast]
    | (with_reducible (first | apply cd_split | apply gd_split)) <;> (intro hc; (try simp only [hcn] at hc); (try simp only [hc]); (try simp only [hcl] at hc); try omega))
  refine CL.pure (takeText_ok (by omega)) ?_
  rcases takeT_range (ix.drop (k + j)) with hU' | ⟨ty, i, hU, i1, i2, i3⟩
  · obtain ⟨f, hU, hfn⟩ : ∃ f, takeT (ix.drop (k + j)) = ([], 0, f) ∧ f ≠ 0 := by
      rcases hU' with h | h
      · exact ⟨_, h, by omega⟩
      · exact ⟨_, h, by omega⟩
    rw [hU]; unfold triT
    have hz : (f = 0) = False := eq_false hfn
    repeat' (first
      | refine St.h ?_
      | simp (disch := first | omega | (simp only [lnv]; omega)) only [wlk, ↓get_put', ↓reduceIte, seval, hz]
      | (with_reducible (first | apply cd_split | apply gd_split)) <;> (intro hc; (try simp only [hcn] at hc); (try simp only [hc]); (try simp only [hcl] at hc); try omega))
    refine ST.all o1 rfl rfl (by simp) (by simp) fun g og sg => ?_
    repeat' (first
      | refine St.h ?_
      | simp (disch := first | omega | (simp only [lnv]; omega)) only [wlk, ↓get_put', ↓reduceIte, seval, og.ra3]
      | (with_reducible (first | apply cd_split | apply gd_split)) <;> (intro hc; (try simp only [hcn] at hc); (try simp only [hc]); (try simp only [hcl] at hc); try omega))
    subst hQ
    refine bad g sg fun b more bm h1 h2 h3 h4 => ?_
    obtain ⟨e1, e2, _⟩ := hsz b more bm h1 h2 h3 h4
    obtain ⟨e3, e4⟩ := hfi b more bm h1 h2 h3 h4
    rw [h3, e2, e4, one_last h1] at hU
    exact hfn (Prod.mk.inj (Prod.mk.inj hU).2).2.symm
  rw [hU]; unfold triT
  have hla : ∀ b more bm, okB b → b.length ≤ 100 → ix = oneIx b ++ more → bl = blkB b ++ bm → ty = lastK b ∧ i = (textB (lastK b)).length := fun b more bm h1 h2 h3 h4 => by
    obtain ⟨e1, e2, _⟩ := hsz b more bm h1 h2 h3 h4
    obtain ⟨e3, e4⟩ := hfi b more bm h1 h2 h3 h4
    have hU2 := hU
    rw [h3, e2, e4, one_last h1] at hU2
    exact ⟨(Prod.mk.inj hU2).1.symm, (Int.ofNat.inj (Prod.mk.inj (Prod.mk.inj hU2).2).1).symm⟩
  have hks : ∀ b more bm, okB b → b.length ≤ 100 → ix = oneIx b ++ more → bl = blkB b ++ bm → (1 ≤ tx.length ∧ tx.length ≤ 13) ∧ (1 ≤ ty.length ∧ ty.length ≤ 13) ∧ (Op.bytesLess tx ty || decide (tx = ty)) = true := fun b more bm h1 h2 h3 h4 => by
    obtain ⟨e3, e4⟩ := hfi b more bm h1 h2 h3 h4
    obtain ⟨e5, e6⟩ := hla b more bm h1 h2 h3 h4
    have hp := okB_pos h1
    rw [e3, e5]
    refine ⟨okB_key h1 (i := 0) (by omega), okB_key h1 (i := b.length - 1) (by omega), ?_⟩
    by_cases he : firstK b = lastK b
    · rw [decide_eq_true he, Bool.or_true]
    · rcases bl_total he with h7 | h7
      · rw [h7]; rfl
      · rw [first_last h1] at h7; cases h7
  repeat' (first
    | refine St.h ?_
    | simp (disch := first | omega | (simp only [lnv]; omega)) only [wlk, ↓get_put', ↓reduceIte, seval, hkj]
    | (with_reducible (first | apply cd_split | apply gd_split)) <;> (intro hc; (try simp only [hcn] at hc); (try simp only [hc]); (try simp only [hcl] at hc); try omega))
  refine CL.pure (isKey_ok (by omega)) ?_
  by_cases k1' : 1 ≤ tx.length ∧ tx.length ≤ 13
  case neg =>
    have hd := decide_eq_false k1'
    rw [hd]
    repeat' (first
      | refine St.h ?_
      | simp (disch := first | omega | (simp only [lnv]; omega)) only [wlk, ↓get_put', ↓reduceIte, seval]
      | (with_reducible (first | apply cd_split | apply gd_split)) <;> (intro hc; (try simp only [hcn] at hc); (try simp only [hc]); (try simp only [hcl] at hc); try omega))
    refine ST.all o1 rfl rfl (by simp) (by simp) fun g og sg => ?_
    repeat' (first
      | refine St.h ?_
      | simp (disch := first | omega | (simp only [lnv]; omega)) only [wlk, ↓get_put', ↓reduceIte, seval, og.ra3]
      | (with_reducible (first | apply cd_split | apply gd_split)) <;> (intro hc; (try simp only [hcn] at hc); (try simp only [hc]); (try simp only [hcl] at hc); try omega))
    subst hQ
    exact bad g sg fun b more bm h1 h2 h3 h4 => k1' (hks b more bm h1 h2 h3 h4).1
  rw [decide_eq_true k1']
  repeat' (first
    | refine St.h ?_
    | simp (disch := first | omega | (simp only [lnv]; omega)) only [wlk, ↓get_put', ↓reduceIte, seval]
    | (with_reducible (first | apply cd_split | apply gd_split)) <;> (intro hc; (try simp only [hcn] at hc); (try simp only [hc]); (try simp only [hcl] at hc); try omega))
  refine CL.pure (isKey_ok (by omega)) ?_
  by_cases k2' : 1 ≤ ty.length ∧ ty.length ≤ 13
  case neg =>
    have hd := decide_eq_false k2'
    rw [hd]
    repeat' (first
      | refine St.h ?_
      | simp (disch := first | omega | (simp only [lnv]; omega)) only [wlk, ↓get_put', ↓reduceIte, seval]
      | (with_reducible (first | apply cd_split | apply gd_split)) <;> (intro hc; (try simp only [hcn] at hc); (try simp only [hc]); (try simp only [hcl] at hc); try omega))
    refine ST.all o1 rfl rfl (by simp) (by simp) fun g og sg => ?_
    repeat' (first
      | refine St.h ?_
      | simp (disch := first | omega | (simp only [lnv]; omega)) only [wlk, ↓get_put', ↓reduceIte, seval, og.ra3]
      | (with_reducible (first | apply cd_split | apply gd_split)) <;> (intro hc; (try simp only [hcn] at hc); (try simp only [hc]); (try simp only [hcl] at hc); try omega))
    subst hQ
    exact bad g sg fun b more bm h1 h2 h3 h4 => k2' (hks b more bm h1 h2 h3 h4).2.1
  rw [decide_eq_true k2']
  repeat' (first
    | refine St.h ?_
    | simp (disch := first | omega | (simp only [lnv]; omega)) only [wlk, ↓get_put', ↓reduceIte, seval, Int.toNat_natCast]
    | (with_reducible (first | apply cd_split | apply gd_split)) <;> (intro hc; (try simp only [hcn] at hc); (try simp only [hc]); (try simp only [hcl] at hc); try omega))
  · refine ST.all o1 rfl rfl (by simp) (by simp) fun g og sg => ?_
    repeat' (first
      | refine St.h ?_
      | simp (disch := first | omega | (simp only [lnv]; omega)) only [wlk, ↓get_put', ↓reduceIte, seval, og.ra3]
      | (with_reducible (first | apply cd_split | apply gd_split)) <;> (intro hc; (try simp only [hcn] at hc); (try simp only [hc]); (try simp only [hcl] at hc); try omega))
    subst hQ
    exact bad g sg fun b more bm h1 h2 h3 h4 => by have := (hks b more bm h1 h2 h3 h4).2.2; rw [hc] at this; cases this
  refine ST.all o1 rfl rfl (by simp) (by simp) fun g og sg => ?_
  repeat' (first
    | refine St.h ?_
    | simp (disch := first | omega | (simp only [lnv]; omega)) only [wlk, ↓get_put', ↓reduceIte, seval, og.ra3]
    | (with_reducible (first | apply cd_split | apply gd_split)) <;> (intro hc; (try simp only [hcn] at hc); (try simp only [hc]); (try simp only [hcl] at hc); try omega))
  subst hQ
  have hkji : ((k + j : Nat) : Int) + (i : Int) = ((k + j + i : Nat) : Int) := by omega
  refine ⟨⟨⟨bl.take n, tx, ty⟩, k + j + i, true, by rw [hkji]; rfl, fun _ => ⟨by omega, by omega, by rw [List.length_take]; omega, by rw [List.length_take]; omega⟩, fun b more bm h1 h2 h3 h4 => ⟨rfl, ?_, ?_⟩⟩, s1.past' sg fun q hq => by rw [hq]; exact Nat.le_refl _⟩
  · obtain ⟨e1, e2, _⟩ := hsz b more bm h1 h2 h3 h4
    obtain ⟨e3, e4⟩ := hfi b more bm h1 h2 h3 h4
    obtain ⟨e5, e6⟩ := hla b more bm h1 h2 h3 h4
    unfold pcOf
    rw [e3, e5, h4, e1, List.take_left]
  · obtain ⟨e1, e2, _⟩ := hsz b more bm h1 h2 h3 h4
    obtain ⟨e3, e4⟩ := hfi b more bm h1 h2 h3 h4
    obtain ⟨e5, e6⟩ := hla b more bm h1 h2 h3 h4
    rw [one_ilen, e2, e4, e6]
theorem swn_buf {h : H} {el n : Nat} {v : V} {xs : List V} (b : Buf h el n v xs) : SwN n v := by
  rcases b with ⟨rfl, _⟩ | ⟨id, g, m, blk, rfl, h1, h2, _⟩
  · exact .inl rfl
  · exact .inr ⟨_, _, _, _, _, _, rfl, by show xs.length = 0 + m * n; omega⟩
theorem takePieces_ok {h : H} {ix bl : List UInt8} (hi : ix.length ≤ 300000) (hb : bl.length ≤ 1000000) (hf : B.val h.floor ≤ B.val h.next) : FnOk Try.prog 65 [sv ix, sv bl] h fun y h' =>
    ∃ v ok ps, y = .tu [v, .b ok] ∧ Ps h' v ps ∧ SwN 3 v ∧ ps.length ≤ ix.length ∧ Stay nowhere h h' ∧ ∀ bs, Chn [] bs → ix = idxT bs → bl = bodyT bs → ok = true ∧ ps = bs.map pcOf := by
  refine fn_go c65 (by intro hb; cases hb) (by simp) (by simp) fun Q hQ => ?_
  simp only [slotsF, Nat.reduceAdd]
  repeat' (first
    | refine St.h ?_
    | simp (disch := first | omega | (simp only [lnv]; omega)) only [wlk, ↓get_put', ↓reduceIte, seval]
    | (with_reducible (first | apply cd_split | apply gd_split)) <;> (intro hc; (try simp only [hcn] at hc); (try simp only [hc]); (try simp only [hcl] at hc); try omega))
  refine Ok.lp (fun m t g => ∃ (out : List Pc) (ir br la : List UInt8) (u : V), m = ir.length ∧ br.length ≤ bl.length ∧ out.length + ir.length ≤ ix.length ∧ (∀ bs, Chn [] bs → ix = idxT bs → bl = bodyT bs → ∃ bs2, Chn la bs2 ∧ bs.map pcOf = out ++ bs2.map pcOf ∧ ir = idxT bs2 ∧ br = bodyT bs2) ∧ get 0 t = sv ir ∧ get 1 t = sv br ∧ get 6 t = u ∧ get 7 t = sv la ∧ Stay nowhere h g ∧ Buf g 60 3 u (out.flatMap pcC) ∧ (∀ i, isOf u i → B.val h.next ≤ B.val i)) ix.length ?_ ?_
  · simp (disch := first | omega | (simp only [lnv]; omega)) only [wlk, ↓get_put', ↓reduceIte, seval]
    refine ⟨[], ix, bl, [], .l0, rfl, by omega, by simp, fun bs h1 h2 h3 => ⟨bs, h1, rfl, h2, h3⟩, ?_⟩
    refine ⟨?_, ?_, ?_, ?_, Stay.refl _ _, Buf.nil _ _ _, ?_⟩
    rotate_right
    · rintro i ⟨_, _, _, _, _, e⟩; cases e
    all_goals first | trivial | rfl
  rintro I hI m t g ⟨out, ir, br, la, u, rfl, hbr, hil, hM, f0, f1, f6, f7, st, bf, own⟩
  have hfg := st.fl hf
  have hps : Ps g u out := Ss.buf bf rfl pcC_len (by omega)
  by_cases hir : ir = []
  case pos =>
    have hd : (ir = []) = True := eq_true hir
    cases hbe : decide (br = []) with
    | true =>
      repeat' (first
        | refine St.h ?_
        | simp (disch := first | omega | (simp only [lnv]; omega)) only [wlk, ↓get_put', ↓reduceIte, seval, f0, f1, f6, f7, hd, hbe]
        | (with_reducible (first | apply cd_split | apply gd_split)) <;> (intro hc; (try simp only [hcn] at hc); (try simp only [hc]); (try simp only [hcl] at hc); try omega))
      subst hQ
      refine ⟨u, true, out, rfl, hps, swn_buf bf, by omega, st, fun bs h1 h2 h3 => ⟨rfl, ?_⟩⟩
      obtain ⟨bs2, a1, a2, a3, a4⟩ := hM bs h1 h2 h3
      cases bs2 with
      | nil => rw [a2]; simp
      | cons b bs2 =>
        rw [hir, idxT_cons] at a3
        exact absurd (List.append_eq_nil_iff.1 a3.symm).1 (oneIx_ne b)
    | false =>
      repeat' (first
        | refine St.h ?_
        | simp (disch := first | omega | (simp only [lnv]; omega)) only [wlk, ↓get_put', ↓reduceIte, seval, f0, f1, f6, f7, hd, hbe]
        | (with_reducible (first | apply cd_split | apply gd_split)) <;> (intro hc; (try simp only [hcn] at hc); (try simp only [hc]); (try simp only [hcl] at hc); try omega))
      subst hQ
      refine ⟨u, false, out, rfl, hps, swn_buf bf, by omega, st, fun bs h1 h2 h3 => ?_⟩
      obtain ⟨bs2, a1, a2, a3, a4⟩ := hM bs h1 h2 h3
      cases bs2 with
      | nil => rw [decide_eq_false_iff_not] at hbe; exact absurd a4 hbe
      | cons b bs2 =>
        rw [hir, idxT_cons] at a3
        exact absurd (List.append_eq_nil_iff.1 a3.symm).1 (oneIx_ne b)
  have hd : (ir = []) = False := eq_false hir
  repeat' (first
    | refine St.h ?_
    | simp (disch := first | omega | (simp only [lnv]; omega)) only [wlk, ↓get_put', ↓reduceIte, seval, f0, f1, f6, f7, hd]
    | (with_reducible (first | apply cd_split | apply gd_split)) <;> (intro hc; (try simp only [hcn] at hc); (try simp only [hc]); (try simp only [hcl] at hc); try omega))
  refine CL.mk (takePiece_ok (by omega) (by omega) hfg) ?_
  rintro _ g1 ⟨⟨p, n, ok, rfl, hr⟩, t1⟩
  have hfg1 := t1.fl hfg
  have bf1 := bf.grow t1
  obtain ⟨pb, pf, pl⟩ := p
  unfold pcC
  repeat' (first
    | refine St.h ?_
    | simp (disch := first | omega | (simp only [lnv]; omega)) only [wlk, ↓get_put', ↓reduceIte, seval, f0, f1, f6, f7]
    | (with_reducible (first | apply cd_split | apply gd_split)) <;> (intro hc; (try simp only [hcn] at hc); (try simp only [hc]); (try simp only [hcl] at hc); try omega))
  refine AL.own (by simp) hfg1 fun g2 t2 n2 o2 => ?_
  have hfg2 := t2.fl hfg1
  have bf2 := bf1.grow t2
  repeat' (first
    | refine St.h ?_
    | simp (disch := first | omega | (simp only [lnv]; omega)) only [wlk, ↓get_put', ↓reduceIte, seval, f0, f1, f6, f7]
    | (with_reducible (first | apply cd_split | apply gd_split)) <;> (intro hc; (try simp only [hcn] at hc); (try simp only [hc]); (try simp only [hcl] at hc); try omega))
  refine ST.all o2 rfl rfl (by simp) (by simp) fun g3 o3 t3 => ?_
  have hu3 : ∀ q, isOf u q → q ≠ g1.next := fun q hq e => absurd (bf1.own hq).2 (by rw [e]; exact Nat.lt_irrefl _)
  have bf3 := bf2.stay t3 (fun q hq => hu3 q hq)
  have t13 : Stay nowhere g1 g3 := t2.past' t3 fun q hq => by rw [hq]; exact Nat.le_refl _
  have st3 := (st.trans t1).trans t13
  have hfg3 := st3.fl hf
  have bad : (∀ bs, Chn [] bs → ix = idxT bs → bl = bodyT bs → False) → ∃ v ok ps, V.tu [.l0, .b false] = .tu [v, .b ok] ∧ Ps g3 v ps ∧ SwN 3 v ∧ ps.length ≤ ix.length ∧ Stay nowhere h g3 ∧ ∀ bs, Chn [] bs → ix = idxT bs → bl = bodyT bs → ok = true ∧ ps = bs.map pcOf :=
    fun no => ⟨.l0, false, [], rfl, Ss.nil, .inl rfl, by simp, st3, fun bs h1 h2 h3 => (no bs h1 h2 h3).elim⟩
  have hnx : ∀ bs, Chn [] bs → ix = idxT bs → bl = bodyT bs → ok = true ∧ ∃ b bs2, bs.map pcOf = out ++ pcOf b :: bs2.map pcOf ∧ Op.bytesLess pf la = false ∧ Chn (lastK b) bs2 ∧ (⟨pb, pf, pl⟩ : Pc) = pcOf b ∧ n = (oneIx b).length ∧ ir = oneIx b ++ idxT bs2 ∧ br = blkB b ++ bodyT bs2 := fun bs h1 h2 h3 => by
    obtain ⟨bs2, a1, a2, a3, a4⟩ := hM bs h1 h2 h3
    cases bs2 with
    | nil => exact absurd a3 hir
    | cons b bs2 =>
      obtain ⟨b1, b2, b3, b4⟩ := a1
      obtain ⟨c1, c2, c3⟩ := hr.laid b _ _ b1 b2 a3 a4
      have : pf = firstK b := congrArg Pc.f c2
      exact ⟨c1, b, bs2, a2, by rw [this]; exact b3, b4, c2, c3, a3, a4⟩
  cases ok with
  | false =>
    repeat' (first
      | refine St.h ?_
      | simp (disch := first | omega | (simp only [lnv]; omega)) only [wlk, ↓get_put', ↓reduceIte, seval, f0, f1, f6, f7]
      | (with_reducible (first | apply cd_split | apply gd_split)) <;> (intro hc; (try simp only [hcn] at hc); (try simp only [hc]); (try simp only [hcl] at hc); try omega))
    subst hQ
    exact bad fun bs h1 h2 h3 => by have := (hnx bs h1 h2 h3).1; cases this
  | true =>
  obtain ⟨r1, r2, r3, r4⟩ := hr.fit rfl
  simp only at r3 r4
  by_cases hlt : (Op.bytesLess la pf || decide (la = pf)) = true
  case neg =>
    have hlt' : (Op.bytesLess la pf || decide (la = pf)) = false := by simpa using hlt
    repeat' (first
      | refine St.h ?_
      | simp (disch := first | omega | (simp only [lnv]; omega)) only [wlk, ↓get_put', ↓reduceIte, seval, f0, f1, f6, f7, o3.row.l1, hlt']
      | (with_reducible (first | apply cd_split | apply gd_split)) <;> (intro hc; (try simp only [hcn] at hc); (try simp only [hc]); (try simp only [hcl] at hc); try omega))
    subst hQ
    refine bad fun bs h1 h2 h3 => ?_
    obtain ⟨_, b, bs2, _, a2, _⟩ := hnx bs h1 h2 h3
    apply hlt
    by_cases he : la = pf
    · rw [decide_eq_true he, Bool.or_true]
    · rcases bl_total he with h7 | h7
      · rw [h7]; rfl
      · rw [a2] at h7; cases h7
  repeat' (first
    | refine St.h ?_
    | simp (disch := first | omega | (simp only [lnv]; omega)) only [wlk, ↓get_put', ↓reduceIte, seval, f0, f1, f6, f7, o3.row.l1, hlt, o3.row.ln]
    | (with_reducible (first | apply cd_split | apply gd_split)) <;> (intro hc; (try simp only [hcn] at hc); (try simp only [hc]); (try simp only [hcl] at hc); try omega))
  refine AL.own (by simp) hfg3 fun g4 t4 _ o4 => ?_
  have hfg4 := t4.fl hfg3
  have bf4 := bf3.grow t4
  have o34 := o3.stay t4 fun h => h
  have hfm := fm_len pcC_len out
  repeat' (first
    | refine St.h ?_
    | simp (disch := first | omega | (simp only [lnv]; omega)) only [wlk, ↓get_put', ↓reduceIte, seval, f0, f1, f6, f7]
    | (with_reducible (first | apply cd_split | apply gd_split)) <;> (intro hc; (try simp only [hcn] at hc); (try simp only [hc]); (try simp only [hcl] at hc); try omega))
  refine AP.buf (vs := pcC ⟨pb, pf, pl⟩) (cnt := 1) bf4 (new_row o4.row rfl (Nat.le_refl _) (by omega) (by show 3 ≤ 3; omega)) hfg4 (by omega) rfl rfl (by rw [hfm, pcC_len]; omega) fun u' g5 b5 t5 ho tp => ?_
  have hug : ¬ isOf u g1.next := fun hq => hu3 _ hq rfl
  have o35 := o34.stay t5 hug
  repeat' (first
    | refine St.h ?_
    | simp (disch := first | omega | (simp only [lnv]; omega)) only [wlk, ↓get_put', ↓reduceIte, seval, f0, f1, f6, f7, o35.row.l1, Int.toNat_natCast]
    | (with_reducible (first | apply cd_split | apply gd_split)) <;> (intro hc; (try simp only [hcn] at hc); (try simp only [hc]); (try simp only [hcl] at hc); try omega))
  have s5 : Stay nowhere h g5 := (st3.trans t4).past' t5 fun q hq => own q hq
  refine lp_next hI (ir.drop n).length (by rw [List.length_drop]; omega) ⟨out ++ [⟨pb, pf, pl⟩], ir.drop n, br.drop pb.length, pl, u', rfl, by rw [List.length_drop]; omega, by rw [List.length_append, List.length_drop]; simp; omega, ?_, ?_, ?_, ?_, ?_, s5, ?_, fun q hq => ?_⟩
  · intro bs h1 h2 h3
    obtain ⟨_, b, bs2, a1, a2, a3, a4, a5, a6, a7⟩ := hnx bs h1 h2 h3
    have e1 : pb = blkB b := congrArg Pc.b a4
    have e2 : pl = lastK b := congrArg Pc.l a4
    refine ⟨bs2, by rw [e2]; exact a3, by rw [a1, a4]; simp, ?_, ?_⟩
    · rw [a6, a5, List.drop_left]
    · rw [a7, e1, List.drop_left]
  · simp (disch := first | omega | (simp only [lnv]; omega)) only [wlk, ↓get_put', ↓reduceIte, seval]
  · simp (disch := first | omega | (simp only [lnv]; omega)) only [wlk, ↓get_put', ↓reduceIte, seval]
  · simp (disch := first | omega | (simp only [lnv]; omega)) only [wlk, ↓get_put', ↓reduceIte, seval]
  · simp (disch := first | omega | (simp only [lnv]; omega)) only [wlk, ↓get_put', ↓reduceIte, seval]
  · rw [List.flatMap_append]; simpa using b5
  · rcases ho q hq with h1 | h1
    · exact own q h1
    · have := st3.next; have := t4.next; omega
end Go.Proofs.Ytiingkpdodbldaa

set_option maxRecDepth 1000000
set_option linter.all false
namespace Go.Proofs.Ytiingkpdodbldaa
open Go Go.Ev
noncomputable abbrev s10_0 : CC := (CC.seq (CC.region [(wB 21 (doMove (tm 5))), (wB 2 (doMove (O.c (V.s 0 0)))), (wB 3 (doMove (tm 21)))]) CC.ret)
noncomputable abbrev s10_1 : CC := (CC.cond (tm 20) s10_0 CC.skip)
noncomputable abbrev s10_2 : CC := (CC.seq (CC.region [(wB 19 (doMove (tm 5))), (wB 20 (bin2 fNeq (tm 19) (oN 0)))]) s10_1)
noncomputable abbrev s10_3 : CC := (CC.seq (CC.region [(wB 15 (doMove (tm 0))), (wB 16 (doCall 32 [(tm 15)])), (wB 14 (doMove (tm 16))), (wB 17 (doExtract 0 (tm 14))), (wB 18 (doExtract 1 (tm 14))), (wB 4 (doMove (tm 17))), (wB 5 (doMove (tm 18)))]) s10_2)
noncomputable abbrev s10_4 : CC := (CC.cond (tm 34) CC.skip (CC.exit 0))
noncomputable abbrev s10_5 : CC := (CC.seq (CC.region [(wB 31 (doMove (tm 9))), (wB 32 (doMove (tm 6))), (wB 33 (doLen (tm 32))), (wB 34 (bin2 fLss (tm 31) (tm 33)))]) s10_4)
noncomputable abbrev s10_6 : CC := (CC.draws [(uB 48 (doMove (tm 8))), (uB 49 (doMove (tm 10))), (uB 50 (doLenS (tm 49))), (uB 51 (doCall 33 [(tm 50)])), (uB 52 (doConcat (tm 48) (tm 51))), (uB 53 (doMove (tm 6))), (uB 54 (doMove (tm 9))), (uB 55 (doIndexAddr 1 (tm 53) (tm 54))), (uB 56 (doLoad (tm 55))), (uB 57 (doIndexAddr 4 (tm 56) (oN 0))), (uB 58 (doFieldAddr 0 (tm 57))), (uB 59 (doLoad (tm 58))), (uB 60 (doCall 34 [(tm 59)])), (uB 61 (doConcat (tm 52) (tm 60))), (uB 62 (doMove (tm 6))), (uB 63 (doMove (tm 9))), (uB 64 (doIndexAddr 1 (tm 62) (tm 63))), (uB 65 (doLoad (tm 64))), (uB 66 (doMove (tm 6))), (uB 67 (doMove (tm 9))), (uB 68 (doIndexAddr 1 (tm 66) (tm 67))), (uB 69 (doLoad (tm 68))), (uB 70 (doLen (tm 69))), (uB 71 (bin2 fSub (tm 70) (oN 1))), (uB 72 (doIndexAddr 4 (tm 65) (tm 71))), (uB 73 (doFieldAddr 0 (tm 72))), (uB 74 (doLoad (tm 73))), (wB 75 (doCall 34 [(tm 74)])), (uB 76 (doConcat (tm 61) (tm 75))), (uB 8 (doMove (tm 76)))])
noncomputable abbrev s10_7 : CC := (CC.seq (CC.region [(wB 45 (doMove (tm 7))), (wB 46 (doMove (tm 10))), (wB 47 (doConcat (tm 45) (tm 46))), (wB 7 (doMove (tm 47)))]) s10_6)
noncomputable abbrev s10_8 : CC := (CC.seq (CC.region [(wB 38 (doMove (tm 6))), (wB 39 (doMove (tm 9))), (wB 40 (doIndexAddr 1 (tm 38) (tm 39))), (wB 41 (doLoad (tm 40))), (wB 42 (doCall 32 [(tm 41)])), (wB 37 (doMove (tm 42))), (wB 43 (doExtract 0 (tm 37))), (wB 44 (doExtract 1 (tm 37))), (wB 10 (doMove (tm 43))), (wB 11 (doMove (tm 44)))]) s10_7)
noncomputable abbrev s10_9 : CC := (CC.block 1 s10_8)
noncomputable abbrev s10_10 : CC := (CC.region [(wB 35 (doMove (tm 9))), (wB 36 (bin2 fAdd (tm 35) (oN 1))), (wB 9 (doMove (tm 36)))])
noncomputable abbrev s10_11 : CC := (CC.seq s10_9 s10_10)
noncomputable abbrev l10_0 : CC := (CC.seq s10_5 s10_11)
noncomputable abbrev s10_12 : CC := (CC.loop l10_0)
noncomputable abbrev s10_13 : CC := (CC.block 0 s10_12)
noncomputable abbrev s10_14 : CC := (CC.seq (CC.region [(wB 9 (doMove (oN 0)))]) s10_13)
noncomputable abbrev s10_15 : CC := (CC.cond (tm 80) CC.skip (CC.exit 2))
noncomputable abbrev s10_16 : CC := (CC.seq (CC.region [(wB 77 (doMove (tm 13))), (wB 78 (doMove (tm 0))), (wB 79 (doLen (tm 78))), (wB 80 (bin2 fLss (tm 77) (tm 79)))]) s10_15)
noncomputable abbrev s10_17 : CC := (CC.region [(wB 99 (doMove (tm 12))), (wB 100 (doMove (tm 0))), (wB 101 (doMove (tm 13))), (wB 102 (doIndexAddr 4 (tm 100) (tm 101))), (wB 103 (doFieldAddr 0 (tm 102))), (wB 104 (doLoad (tm 103))), (wB 105 (doBuildSlice 9 1 [(V.s 0 0)] [(Pt.mk 0 1 (tm 104))])), (wB 106 (doAppend 9 1 (tm 99) (tm 105))), (wB 12 (doMove (tm 106)))])
noncomputable abbrev s10_18 : CC := (CC.cond (tm 98) s10_17 CC.skip)
noncomputable abbrev s10_19 : CC := (CC.seq (CC.draws [(uB 83 (doMove (tm 13))), (uB 84 (bin2 fEql (tm 83) (oN 0))), (uB 85 (doMove (tm 84))), (uG 85 false 86 (doMove (tm 0))), (uG 85 false 87 (doMove (tm 13))), (uG 85 false 88 (bin2 fSub (tm 87) (oN 1))), (uG 85 false 89 (doIndexAddr 4 (tm 86) (tm 88))), (uG 85 false 90 (doFieldAddr 0 (tm 89))), (uG 85 false 91 (doLoad (tm 90))), (uG 85 false 92 (doMove (tm 0))), (uG 85 false 93 (doMove (tm 13))), (uG 85 false 94 (doIndexAddr 4 (tm 92) (tm 93))), (uG 85 false 95 (doFieldAddr 0 (tm 94))), (uG 85 false 96 (doLoad (tm 95))), (uG 85 false 97 (doSCmp (fun a b c d => !eqS a b c d) (tm 91) (tm 96))), (uB 98 (doPick (tm 85) (O.c (V.b Bool.true)) (tm 97)))]) s10_18)
noncomputable abbrev s10_20 : CC := (CC.block 3 s10_19)
noncomputable abbrev s10_21 : CC := (CC.region [(wB 81 (doMove (tm 13))), (wB 82 (bin2 fAdd (tm 81) (oN 1))), (wB 13 (doMove (tm 82)))])
noncomputable abbrev s10_22 : CC := (CC.seq s10_20 s10_21)
noncomputable abbrev l10_1 : CC := (CC.seq s10_16 s10_22)
noncomputable abbrev s10_23 : CC := (CC.loop l10_1)
noncomputable abbrev s10_24 : CC := (CC.block 2 s10_23)
noncomputable abbrev s10_25 : CC := (CC.seq (CC.region [(wB 13 (doMove (oN 0)))]) s10_24)
noncomputable abbrev s10_26 : CC := (CC.seq (CC.region [(wB 107 (doMove (tm 7))), (wB 108 (doMove (tm 8))), (wB 109 (doCall 35 [(tm 108)])), (wB 110 (doConcat (tm 107) (tm 109))), (wB 111 (doMove (tm 12))), (wB 112 (doCall 36 [(tm 111)])), (wB 113 (doCall 35 [(tm 112)])), (wB 114 (doConcat (tm 110) (tm 113))), (wB 115 (doMove (tm 7))), (wB 116 (doLenS (tm 115))), (wB 117 (doCall 37 [(tm 116)])), (wB 118 (doConcat (tm 114) (tm 117))), (wB 2 (doMove (tm 118))), (wB 3 (doMove (oN 0)))]) CC.ret)
noncomputable abbrev s10_27 : CC := (CC.seq s10_25 s10_26)
noncomputable abbrev s10_28 : CC := (CC.seq (CC.region [(wB 12 (doMove (O.c V.l0)))]) s10_27)
noncomputable abbrev s10_29 : CC := (CC.seq s10_14 s10_28)
noncomputable abbrev s10_30 : CC := (CC.seq (CC.region [(wB 24 (doMove (tm 0))), (wB 25 (doLen (tm 24))), (wB 26 (doCall 33 [(tm 25)])), (wB 27 (doMove (tm 6))), (wB 28 (doLen (tm 27))), (wB 29 (doCall 33 [(tm 28)])), (wB 30 (doConcat (tm 26) (tm 29))), (wB 7 (doMove (O.c (V.s 0 0)))), (wB 8 (doMove (tm 30)))]) s10_29)
noncomputable abbrev s10_31 : CC := (CC.seq (CC.region [(wB 22 (doMove (tm 0))), (wB 23 (doCall 21 [(tm 22)])), (wB 6 (doMove (tm 23)))]) s10_30)
noncomputable abbrev s10_32 : CC := (CC.seq s10_3 s10_31)
noncomputable abbrev b10 : CC := (CC.seq (CC.region [(wB 2 (doMove (O.c (V.s 0 0)))), (wB 3 (doMove (oN 0)))]) s10_32)
noncomputable abbrev s8_0 : CC := (CC.cond (tm 7) CC.skip (CC.exit 0))
noncomputable abbrev s8_1 : CC := (CC.seq (CC.region [(wB 4 (doMove (tm 3))), (wB 5 (doMove (tm 0))), (wB 6 (doLen (tm 5))), (wB 7 (bin2 fLss (tm 4) (tm 6)))]) s8_0)
noncomputable abbrev s8_2 : CC := (CC.seq (CC.region [(wB 2 (doMove (O.c (V.b Bool.false))))]) CC.ret)
noncomputable abbrev s8_3 : CC := (CC.cond (tm 25) s8_2 CC.skip)
noncomputable abbrev s8_4 : CC := (CC.seq (CC.region [(wB 10 (doMove (tm 0))), (wB 11 (doMove (tm 3))), (wB 12 (doIndexAddr 4 (tm 10) (tm 11))), (wB 13 (doFieldAddr 0 (tm 12))), (wB 14 (doLoad (tm 13))), (wB 15 (doLenS (tm 14))), (wB 16 (bin2 fGtr (tm 15) (oN 20))), (wB 17 (doMove (tm 16))), (wG 17 false 18 (doMove (tm 0))), (wG 17 false 19 (doMove (tm 3))), (wG 17 false 20 (doIndexAddr 4 (tm 18) (tm 19))), (wG 17 false 21 (doFieldAddr 3 (tm 20))), (wG 17 false 22 (doLoad (tm 21))), (wG 17 false 23 (doLenS (tm 22))), (wG 17 false 24 (bin2 fGtr (tm 23) (oN 40))), (wB 25 (doPick (tm 17) (O.c (V.b Bool.true)) (tm 24)))]) s8_3)
noncomputable abbrev s8_5 : CC := (CC.block 1 s8_4)
noncomputable abbrev s8_6 : CC := (CC.region [(wB 8 (doMove (tm 3))), (wB 9 (bin2 fAdd (tm 8) (oN 1))), (wB 3 (doMove (tm 9)))])
noncomputable abbrev s8_7 : CC := (CC.seq s8_5 s8_6)
noncomputable abbrev l8_0 : CC := (CC.seq s8_1 s8_7)
noncomputable abbrev s8_8 : CC := (CC.loop l8_0)
noncomputable abbrev s8_9 : CC := (CC.block 0 s8_8)
noncomputable abbrev s8_10 : CC := (CC.seq (CC.region [(wB 3 (doMove (oN 0)))]) s8_9)
noncomputable abbrev s8_11 : CC := (CC.seq (CC.region [(wB 26 (doMove (tm 0))), (wB 27 (doLen (tm 26))), (wB 28 (bin2 fLeq (tm 27) (oN 60))), (wB 2 (doMove (tm 28)))]) CC.ret)
noncomputable abbrev s8_12 : CC := (CC.seq s8_10 s8_11)
noncomputable abbrev b8 : CC := (CC.seq (CC.region [(wB 2 (doMove (O.c (V.b Bool.false))))]) s8_12)
end Go.Proofs.Ytiingkpdodbldaa

set_option maxRecDepth 100000
set_option maxHeartbeats 8000000
set_option linter.all false
namespace Go.Proofs.Ytiingkpdodbldaa
open Go Go.Ev
theorem fp_sw {n : Nat} {x : V} (w : SwN n x) {P : Program} {off : Nat} {ps : List Pt} {t : F} {z : List V} {e : Option (Nat × Nat)} {h : H} {N : Nx} : FP P off 1 x ps t z e h N = if off + 1 ≤ z.length then FL P ps t (z.take off ++ (x :: z.drop (off + 1))) e h N else FPJ P off 1 x ps t z e h N := by
  rcases w with rfl | ⟨_, _, _, _, _, _, rfl, _⟩
  · exact fp_l0
  · exact fp_l
end Go.Proofs.Ytiingkpdodbldaa

set_option maxRecDepth 100000
set_option maxHeartbeats 8000000
set_option linter.all false
namespace Go.Proofs.Ytiingkpdodbldaa
open Go Go.Ev
theorem takeIndex_ok {h : H} {ix bl : List UInt8} (hi : ix.length ≤ 300000) (hb : bl.length ≤ 1000000) (hf : B.val h.floor ≤ B.val h.next) : FnOk Try.prog 41 [sv ix, sv bl] h fun y h' =>
    ∃ (c : Nat) (v : V) (ok : Bool) (ps : List Pc), y = .tu [.i .i64 (c : Int), v, .b ok] ∧ c ≤ 9223372036854775807 ∧ Ps h' v ps ∧ SwN 3 v ∧ Stay nowhere h h' ∧ ∀ L, okB L → L.length ≤ 100 → ix = idxB L → bl = bodyT (blksE L) → ok = true ∧ c = L.length ∧ ps = (blksE L).map pcOf := by
  refine fn_go c41 (by intro hb; cases hb) (by simp) (by simp) fun Q hQ => ?_
  simp only [slotsF, Nat.reduceAdd]
  repeat' (first
    | refine St.h ?_
    | simp (disch := first | omega | (simp only [lnv]; omega)) only [wlk, ↓get_put', ↓reduceIte, seval]
    | (with_reducible (first | apply cd_split | apply gd_split)) <;> (intro hc; (try simp only [hcn] at hc); (try simp only [hc]); (try simp only [hcl] at hc); try omega))
  have bad : ∀ g, Stay nowhere h g → (∀ L, okB L → L.length ≤ 100 → ix = idxB L → bl = bodyT (blksE L) → False) → ∃ (c : Nat) (v : V) (ok : Bool) (ps : List Pc), V.tu [.i .i64 0, .l0, .b false] = .tu [.i .i64 (c : Int), v, .b ok] ∧ c ≤ 9223372036854775807 ∧ Ps g v ps ∧ SwN 3 v ∧ Stay nowhere h g ∧ ∀ L, okB L → L.length ≤ 100 → ix = idxB L → bl = bodyT (blksE L) → ok = true ∧ c = L.length ∧ ps = (blksE L).map pcOf :=
    fun g sg no => ⟨0, .l0, false, [], rfl, by omega, Ss.nil, .inl rfl, sg, fun L h1 h2 h3 h4 => (no L h1 h2 h3 h4).elim⟩
  refine CL.pure (takeNum_ok (by omega)) ?_
  have hn1 : ∀ L, okB L → L.length ≤ 100 → ix = idxB L → takeN ix = ((L.length : Int), ((numB L.length).length : Int), 0) ∧ takeN (ix.drop (numB L.length).length) = (((blksE L).length : Int), ((numB (blksE L).length).length : Int), 0) ∧ ix.drop ((numB L.length).length + (numB (blksE L).length).length) = idxT (blksE L) := fun L h1 h2 h3 => by
    have h4 := blksE_len L
    have e : ix = numB L.length ++ (numB (blksE L).length ++ idxT (blksE L)) := by rw [h3]; unfold idxB idxT; rw [List.append_assoc]
    refine ⟨by rw [e]; exact takeN_numB (by omega) _, by rw [e, List.drop_left]; exact takeN_numB (by omega) _, by rw [e, ← List.drop_drop, List.drop_left, List.drop_left]⟩
  rcases takeN_range ix with hN' | ⟨n, k, hN, n1', k1, k2, k3⟩
  · obtain ⟨f, hN, hfn⟩ : ∃ f, takeN ix = (0, 0, f) ∧ f ≠ 0 := by
      rcases hN' with h | h
      · exact ⟨_, h, by omega⟩
      · exact ⟨_, h, by omega⟩
    rw [hN]; unfold tri
    have hz : (f = 0) = False := eq_false hfn
    repeat' (first
      | refine St.h ?_
      | simp (disch := first | omega | (simp only [lnv]; omega)) only [wlk, ↓get_put', ↓reduceIte, seval, hz]
      | (with_reducible (first | apply cd_split | apply gd_split)) <;> (intro hc; (try simp only [hcn] at hc); (try simp only [hc]); (try simp only [hcl] at hc); try omega))
    subst hQ
    refine bad _ (Stay.refl _ _) fun L h1 h2 h3 h4 => ?_
    have := (hn1 L h1 h2 h3).1
    rw [hN] at this
    exact hfn (Prod.mk.inj (Prod.mk.inj this).2).2
  rw [hN]; unfold tri
  have hdl : (ix.drop k).length = ix.length - k := List.length_drop
  have hn2 : ∀ L, okB L → L.length ≤ 100 → ix = idxB L → n = L.length ∧ k = (numB L.length).length := fun L h1 h2 h3 => by
    have := (hn1 L h1 h2 h3).1
    rw [hN] at this
    exact ⟨Int.ofNat.inj (Prod.mk.inj this).1, Int.ofNat.inj (Prod.mk.inj (Prod.mk.inj this).2).1⟩
  repeat' (first
    | refine St.h ?_
    | simp (disch := first | omega | (simp only [lnv]; omega)) only [wlk, ↓get_put', ↓reduceIte, seval, Int.toNat_natCast]
    | (with_reducible (first | apply cd_split | apply gd_split)) <;> (intro hc; (try simp only [hcn] at hc); (try simp only [hc]); (try simp only [hcl] at hc); try omega))
  refine CL.pure (takeNum_ok (by omega)) ?_
  rcases takeN_range (ix.drop k) with hN2' | ⟨n2, k', hN2, n12, k12, k22, k32⟩
  · obtain ⟨f, hN2, hfn⟩ : ∃ f, takeN (ix.drop k) = (0, 0, f) ∧ f ≠ 0 := by
      rcases hN2' with h | h
      · exact ⟨_, h, by omega⟩
      · exact ⟨_, h, by omega⟩
    rw [hN2]; unfold tri
    have hz : (f = 0) = False := eq_false hfn
    repeat' (first
      | refine St.h ?_
      | simp (disch := first | omega | (simp only [lnv]; omega)) only [wlk, ↓get_put', ↓reduceIte, seval, hz]
      | (with_reducible (first | apply cd_split | apply gd_split)) <;> (intro hc; (try simp only [hcn] at hc); (try simp only [hc]); (try simp only [hcl] at hc); try omega))
    subst hQ
    refine bad _ (Stay.refl _ _) fun L h1 h2 h3 h4 => ?_
    have := (hn1 L h1 h2 h3).2.1
    rw [← (hn2 L h1 h2 h3).2, hN2] at this
    exact hfn (Prod.mk.inj (Prod.mk.inj this).2).2
  rw [hN2]; unfold tri
  have hn3 : ∀ L, okB L → L.length ≤ 100 → ix = idxB L → n2 = (blksE L).length ∧ k' = (numB (blksE L).length).length := fun L h1 h2 h3 => by
    have := (hn1 L h1 h2 h3).2.1
    rw [← (hn2 L h1 h2 h3).2, hN2] at this
    exact ⟨Int.ofNat.inj (Prod.mk.inj this).1, Int.ofNat.inj (Prod.mk.inj (Prod.mk.inj this).2).1⟩
  have hkk : ((k : Int) + (k' : Int)) = ((k + k' : Nat) : Int) := by omega
  have hdl2 : (ix.drop (k + k')).length = ix.length - (k + k') := List.length_drop
  repeat' (first
    | refine St.h ?_
    | simp (disch := first | omega | (simp only [lnv]; omega)) only [wlk, ↓get_put', ↓reduceIte, seval, hkk, Int.toNat_natCast]
    | (with_reducible (first | apply cd_split | apply gd_split)) <;> (intro hc; (try simp only [hcn] at hc); (try simp only [hc]); (try simp only [hcl] at hc); try omega))
  refine CL.mk (takePieces_ok (by omega) hb hf) ?_
  rintro _ h1 ⟨v, ok, ps, rfl, hps, hw, hpl, s1, hla⟩
  have hall : ∀ L, okB L → L.length ≤ 100 → ix = idxB L → bl = bodyT (blksE L) → ok = true ∧ n = L.length ∧ n2 = (blksE L).length ∧ ps = (blksE L).map pcOf := fun L h1 h2 h3 h4 => by
    obtain ⟨a1, a2⟩ := hn2 L h1 h2 h3
    obtain ⟨a3, a4⟩ := hn3 L h1 h2 h3
    have := hla (blksE L) (chn_blks h1 h2) (by rw [a2, a4]; exact (hn1 L h1 h2 h3).2.2) h4
    exact ⟨this.1, a1, a3, this.2⟩
  cases ok with
  | false =>
    repeat' (first
      | refine St.h ?_
      | simp (disch := first | omega | (simp only [lnv]; omega)) only [wlk, ↓get_put', ↓reduceIte, seval]
      | (with_reducible (first | apply cd_split | apply gd_split)) <;> (intro hc; (try simp only [hcn] at hc); (try simp only [hc]); (try simp only [hcl] at hc); try omega))
    subst hQ
    exact bad _ s1 fun L h1 h2 h3 h4 => by have := (hall L h1 h2 h3 h4).1; cases this
  | true =>
  repeat' (first
    | refine St.h ?_
    | simp (disch := first | omega | (simp only [lnv]; omega)) only [wlk, ↓get_put', ↓reduceIte, seval, hps.ln]
    | (with_reducible (first | apply cd_split | apply gd_split)) <;> (intro hc; (try simp only [hcn] at hc); (try simp only [hc]); (try simp only [hcl] at hc); try omega))
  · subst hQ
    refine bad _ s1 fun L h1 h2 h3 h4 => ?_
    have := (hall L h1 h2 h3 h4).2.2.1
    have := blksE_pos h1.2.1
    omega
  · subst hQ
    refine bad _ s1 fun L h1 h2 h3 h4 => ?_
    obtain ⟨_, a1, a2, a3⟩ := hall L h1 h2 h3 h4
    have := congrArg List.length a3
    rw [List.length_map] at this
    have := blksE_len L
    omega
  · subst hQ
    refine bad _ s1 fun L h1 h2 h3 h4 => ?_
    obtain ⟨_, a1, a2, a3⟩ := hall L h1 h2 h3 h4
    have := congrArg List.length a3
    rw [List.length_map] at this
    have := blksE_len L
    omega
  · subst hQ
    exact ⟨n, v, true, ps, rfl, by omega, hps, hw, s1, fun L h1 h2 h3 h4 => by
      obtain ⟨a0, a1, a2, a3⟩ := hall L h1 h2 h3 h4
      exact ⟨rfl, a1, a3⟩⟩
/-- a table, as it lies -/
structure Tb (h : H) (p : B) (L : List Ent) : Prop where
  at' : ∃ v, Row h p 0 0 [.i .i64 (L.length : Int), v, sv (sieveB (keysE L))] ∧ B.val p < B.val h.next ∧ Ps h v ((blksE L).map pcOf) ∧ SwN 3 v
def tp (p : B) : V := .p p 0 0 3
theorem Tb.grow {h h' : H} {p : B} {L : List Ent} (T : Tb h p L) (s : Stay nowhere h h') : Tb h' p L := by
  obtain ⟨v, a1, a2, a3, a4⟩ := T.at'
  exact ⟨v, a1.grow s a2, Nat.lt_of_lt_of_le a2 s.next, a3.grow s, a4⟩
theorem splT_cases (s : List UInt8) : (splT s = ([], [], 12)) ∨ ∃ a b, splT s = (a, b, 0) ∧ 4 ≤ s.length ∧ a.length ≤ s.length ∧ b.length ≤ s.length := by
  unfold splT
  split
  · exact .inl rfl
  · split
    · exact .inl rfl
    · exact .inr ⟨_, _, rfl, by omega, by rw [List.length_take]; omega, by rw [List.length_drop, List.length_take]; omega⟩
theorem tab_parts {L : List Ent} (h : okB L) (hl : L.length ≤ 100) : splT (tabB L) = (bodyT (blksE L), sealB (idxB L) ++ sealB (sieveB (keysE L)), 0) := by
  have hbt := bodyT_len (blksE_ne (L := L)) (by rw [blksE_flat]; omega)
  rw [blksE_flat] at hbt
  unfold tabB
  rw [List.append_assoc (bodyT (blksE L))]
  exact splT_made rfl (by omega)
theorem tab_lens {L : List Ent} (h : okB L) (hl : L.length ≤ 100) : (idxB L).length ≤ 5400 ∧ (sieveB (keysE L)).length = max 8 (keysE L).length ∧ (keysE L).length ≤ L.length := by
  have hbl := blksE_len L
  have hil := idxU_len h (by omega) (blksE L).length (by omega)
  rw [idxU_all] at hil
  exact ⟨by omega, sieveB_len _, keysU_len L L.length⟩
theorem topen_ok {h : H} {s : List UInt8} (hs : s.length ≤ 300000) (hf : B.val h.floor ≤ B.val h.next) : FnOk Try.prog 11 [sv s] h fun y h' => Stay nowhere h h' ∧
    ((∃ e : Int, y = .tu [.p0, .i .i64 e] ∧ (e = 10 ∨ e = 12 ∨ e = 13) ∧ (s.length < 4 → e = 12) ∧ ∀ L, okB L → L.length ≤ 100 → s ≠ tabB L) ∨ (∃ p, y = .tu [tp p, .i .i64 0] ∧ 4 ≤ s.length ∧ ∀ L, okB L → L.length ≤ 100 → s = tabB L → Tb h' p L)) := by
  refine fn_go c11 (by intro hb; cases hb) (by simp) (by simp) fun Q hQ => ?_
  simp only [slotsF, Nat.reduceAdd]
  repeat' (first
    | refine St.h ?_
    | simp (disch := first | omega | (simp only [lnv]; omega)) only [wlk, ↓get_put', ↓reduceIte, seval]
    | (with_reducible (first | apply cd_split | apply gd_split)) <;> (intro hc; (try simp only [hcn] at hc); (try simp only [hc]); (try simp only [hcl] at hc); try omega))
  refine CL.stay (clone_ok (by omega) hf) fun h1 s1 => ?_
  have hf1 := s1.fl hf
  repeat' (first
    | refine St.h ?_
    | simp (disch := first | omega | (simp only [lnv]; omega)) only [wlk, ↓get_put', ↓reduceIte, seval]
    | (with_reducible (first | apply cd_split | apply gd_split)) <;> (intro hc; (try simp only [hcn] at hc); (try simp only [hc]); (try simp only [hcl] at hc); try omega))
  refine CL.pure (split_ok (by omega)) ?_
  rcases splT_cases s with hS | ⟨A, C, hS, h4, hA, hC⟩
  · rw [hS]
    repeat' (first
      | refine St.h ?_
      | simp (disch := first | omega | (simp only [lnv]; omega)) only [wlk, ↓get_put', ↓reduceIte, seval]
      | (with_reducible (first | apply cd_split | apply gd_split)) <;> (intro hc; (try simp only [hcn] at hc); (try simp only [hc]); (try simp only [hcl] at hc); try omega))
    subst hQ
    refine ⟨s1, .inl ⟨12, rfl, .inr (.inl rfl), fun _ => rfl, fun L a1 a2 a3 => ?_⟩⟩
    have := tab_parts a1 a2
    rw [← a3, hS] at this
    have := (Prod.mk.inj (Prod.mk.inj this).2).2
    cases this
  rw [hS]
  have hp : ∀ L, okB L → L.length ≤ 100 → s = tabB L → A = bodyT (blksE L) ∧ C = sealB (idxB L) ++ sealB (sieveB (keysE L)) := fun L a1 a2 a3 => by
    have := tab_parts a1 a2
    rw [← a3, hS] at this
    exact ⟨(Prod.mk.inj this).1, (Prod.mk.inj (Prod.mk.inj this).2).1⟩
  repeat' (first
    | refine St.h ?_
    | simp (disch := first | omega | (simp only [lnv]; omega)) only [wlk, ↓get_put', ↓reduceIte, seval]
    | (with_reducible (first | apply cd_split | apply gd_split)) <;> (intro hc; (try simp only [hcn] at hc); (try simp only [hc]); (try simp only [hcl] at hc); try omega))
  refine CL.stay (open_ok (by omega) hf1) fun h2 s2 => ?_
  have hf2 := s2.fl hf1
  have s02 := s1.trans s2
  have ho1 : ∀ L, okB L → L.length ≤ 100 → s = tabB L → openB C = (idxB L, ((sealB (idxB L)).length : Int), 0) ∧ openB (C.drop (sealB (idxB L)).length) = (sieveB (keysE L), ((sealB (sieveB (keysE L))).length : Int), 0) := fun L a1 a2 a3 => by
    obtain ⟨b1, b2⟩ := hp L a1 a2 a3
    obtain ⟨c1, c2, c3⟩ := tab_lens a1 a2
    refine ⟨by rw [b2]; exact openB_seal (by omega), ?_⟩
    rw [b2, List.drop_left]
    have := openB_seal (l := sieveB (keysE L)) (more := []) (by omega)
    rwa [List.append_nil] at this
  have err : ∀ (e : Int), (e = 12 ∨ e = 13) → openB C = ([], 0, e) → ∀ L, okB L → L.length ≤ 100 → s ≠ tabB L := fun e he ho L a1 a2 a3 => by
    have := (ho1 L a1 a2 a3).1
    rw [ho] at this
    have := (Prod.mk.inj (Prod.mk.inj this).2).2
    omega
  unfold opn
  rcases openB_range C with hO | hO | ⟨X, n, hO, n1, n2, n3⟩
  · rw [hO]
    repeat' (first
      | refine St.h ?_
      | simp (disch := first | omega | (simp only [lnv]; omega)) only [wlk, ↓get_put', ↓reduceIte, seval]
      | (with_reducible (first | apply cd_split | apply gd_split)) <;> (intro hc; (try simp only [hcn] at hc); (try simp only [hc]); (try simp only [hcl] at hc); try omega))
    subst hQ
    exact ⟨s02, .inl ⟨12, rfl, .inr (.inl rfl), fun _ => rfl, err 12 (.inl rfl) hO⟩⟩
  · rw [hO]
    repeat' (first
      | refine St.h ?_
      | simp (disch := first | omega | (simp only [lnv]; omega)) only [wlk, ↓get_put', ↓reduceIte, seval]
      | (with_reducible (first | apply cd_split | apply gd_split)) <;> (intro hc; (try simp only [hcn] at hc); (try simp only [hc]); (try simp only [hcl] at hc); try omega))
    subst hQ
    exact ⟨s02, .inl ⟨13, rfl, .inr (.inr rfl), fun h => by omega, err 13 (.inr rfl) hO⟩⟩
  rw [hO]
  have hx : ∀ L, okB L → L.length ≤ 100 → s = tabB L → X = idxB L ∧ n = (sealB (idxB L)).length := fun L a1 a2 a3 => by
    have := (ho1 L a1 a2 a3).1
    rw [hO] at this
    exact ⟨(Prod.mk.inj this).1, Int.ofNat.inj (Prod.mk.inj (Prod.mk.inj this).2).1⟩
  have hdl : (C.drop n).length = C.length - n := List.length_drop
  repeat' (first
    | refine St.h ?_
    | simp (disch := first | omega | (simp only [lnv]; omega)) only [wlk, ↓get_put', ↓reduceIte, seval, Int.toNat_natCast]
    | (with_reducible (first | apply cd_split | apply gd_split)) <;> (intro hc; (try simp only [hcn] at hc); (try simp only [hc]); (try simp only [hcl] at hc); try omega))
  refine CL.stay (open_ok (by omega) hf2) fun h3 s3 => ?_
  have hf3 := s3.fl hf2
  have s03 := s02.trans s3
  have err2 : ∀ (e : Int), (e = 12 ∨ e = 13) → openB (C.drop n) = ([], 0, e) → ∀ L, okB L → L.length ≤ 100 → s ≠ tabB L := fun e he ho L a1 a2 a3 => by
    have := (ho1 L a1 a2 a3).2
    rw [← (hx L a1 a2 a3).2, ho] at this
    have := (Prod.mk.inj (Prod.mk.inj this).2).2
    omega
  unfold opn
  rcases openB_range (C.drop n) with hU | hU | ⟨Y, m, hU, m1, m2, m3⟩
  · rw [hU]
    repeat' (first
      | refine St.h ?_
      | simp (disch := first | omega | (simp only [lnv]; omega)) only [wlk, ↓get_put', ↓reduceIte, seval]
      | (with_reducible (first | apply cd_split | apply gd_split)) <;> (intro hc; (try simp only [hcn] at hc); (try simp only [hc]); (try simp only [hcl] at hc); try omega))
    subst hQ
    exact ⟨s03, .inl ⟨12, rfl, .inr (.inl rfl), fun _ => rfl, err2 12 (.inl rfl) hU⟩⟩
  · rw [hU]
    repeat' (first
      | refine St.h ?_
      | simp (disch := first | omega | (simp only [lnv]; omega)) only [wlk, ↓get_put', ↓reduceIte, seval]
      | (with_reducible (first | apply cd_split | apply gd_split)) <;> (intro hc; (try simp only [hcn] at hc); (try simp only [hc]); (try simp only [hcl] at hc); try omega))
    subst hQ
    exact ⟨s03, .inl ⟨13, rfl, .inr (.inr rfl), fun h => by omega, err2 13 (.inr rfl) hU⟩⟩
  rw [hU]
  have hy : ∀ L, okB L → L.length ≤ 100 → s = tabB L → Y = sieveB (keysE L) ∧ m = (sealB (sieveB (keysE L))).length := fun L a1 a2 a3 => by
    have := (ho1 L a1 a2 a3).2
    rw [← (hx L a1 a2 a3).2, hU] at this
    exact ⟨(Prod.mk.inj this).1, Int.ofNat.inj (Prod.mk.inj (Prod.mk.inj this).2).1⟩
  repeat' (first
    | refine St.h ?_
    | simp (disch := first | omega | (simp only [lnv]; omega)) only [wlk, ↓get_put', ↓reduceIte, seval]
    | (with_reducible (first | apply cd_split | apply gd_split)) <;> (intro hc; (try simp only [hcn] at hc); (try simp only [hc]); (try simp only [hcl] at hc); try omega))
  refine CL.mk (takeIndex_ok (by omega) (by omega) hf3) ?_
  rintro _ h4' ⟨c, v, ok, ps, rfl, hc1, hps, hw, s4, hla⟩
  have hf4 := s4.fl hf3
  have s04 := s03.trans s4
  have hall : ∀ L, okB L → L.length ≤ 100 → s = tabB L → ok = true ∧ c = L.length ∧ ps = (blksE L).map pcOf ∧ 8 ≤ Y.length ∧ Y.length ≤ max 8 c ∧ n + m = C.length ∧ Y = sieveB (keysE L) := fun L a1 a2 a3 => by
    obtain ⟨b1, b2⟩ := hp L a1 a2 a3
    obtain ⟨b3, b4⟩ := hx L a1 a2 a3
    obtain ⟨b5, b6⟩ := hy L a1 a2 a3
    obtain ⟨c1, c2, c3⟩ := tab_lens a1 a2
    obtain ⟨d1, d2, d3⟩ := hla L a1 a2 b3 b1
    refine ⟨d1, d2, d3, by rw [b5]; omega, by rw [b5]; omega, by rw [b2, b4, b6, List.length_append], b5⟩
  have bad : (∀ L, okB L → L.length ≤ 100 → s = tabB L → False) → Stay nowhere h h4' ∧
    ((∃ e : Int, V.tu [.p0, .i .i64 10] = .tu [.p0, .i .i64 e] ∧ (e = 10 ∨ e = 12 ∨ e = 13) ∧ (s.length < 4 → e = 12) ∧ ∀ L, okB L → L.length ≤ 100 → s ≠ tabB L) ∨ (∃ p, V.tu [.p0, .i .i64 10] = .tu [tp p, .i .i64 0] ∧ 4 ≤ s.length ∧ ∀ L, okB L → L.length ≤ 100 → s = tabB L → Tb h4' p L)) :=
    fun no => ⟨s04, .inl ⟨10, rfl, .inl rfl, fun h => by omega, fun L a1 a2 a3 => no L a1 a2 a3⟩⟩
  cases ok with
  | false =>
    repeat' (first
      | refine St.h ?_
      | simp (disch := first | omega | (simp only [lnv]; omega)) only [wlk, ↓get_put', ↓reduceIte, seval]
      | (with_reducible (first | apply cd_split | apply gd_split)) <;> (intro hc; (try simp only [hcn] at hc); (try simp only [hc]); (try simp only [hcl] at hc); try omega))
    subst hQ
    exact bad fun L a1 a2 a3 => by have := (hall L a1 a2 a3).1; cases this
  | true =>
  have hmx : max (8 : Int) (c : Int) = ((max 8 c : Nat) : Int) := by omega
  repeat' (first
    | refine St.h ?_
    | simp (disch := first | omega | (simp only [lnv]; omega)) only [wlk, ↓get_put', ↓reduceIte, seval, hmx, fp_sw hw]
    | (with_reducible (first | apply cd_split | apply gd_split)) <;> (intro hc; (try simp only [hcn] at hc); (try simp only [hc]); (try simp only [hcl] at hc); try omega))
  iterate 3
    · subst hQ
      exact bad fun L a1 a2 a3 => by have := hall L a1 a2 a3; omega
  refine AL.own (by simp) hf4 fun h5 s5 n5 o5 => ?_
  repeat' (first
    | refine St.h ?_
    | simp (disch := first | omega | (simp only [lnv]; omega)) only [wlk, ↓get_put', ↓reduceIte, seval]
    | (with_reducible (first | apply cd_split | apply gd_split)) <;> (intro hc; (try simp only [hcn] at hc); (try simp only [hc]); (try simp only [hcl] at hc); try omega))
  subst hQ
  refine ⟨s04.trans s5, .inr ⟨_, rfl, h4, fun L a1 a2 a3 => ?_⟩⟩
  obtain ⟨b1, b2, b3, b4, b5, b6, b7⟩ := hall L a1 a2 a3
  subst b2; subst b3; subst b7
  exact ⟨v, o5.row, own_lt' o5, hps.grow s5, hw⟩
end Go.Proofs.Ytiingkpdodbldaa

set_option maxRecDepth 100000
set_option maxHeartbeats 8000000
set_option linter.all false
namespace Go.Proofs.Ytiingkpdodbldaa
open Go Go.Ev
theorem le_trans' {a b c : List UInt8} (h1 : Op.bytesLess b a = false) (h2 : Op.bytesLess c b = false) : Op.bytesLess c a = false := by
  cases h : Op.bytesLess c a with
  | false => rfl
  | true =>
    by_cases e : a = b
    · rw [e, h2] at h; cases h
    · rcases bl_total e with h3 | h3
      · have := bl_trans h h3; rw [h2] at this; cases this
      · rw [h1] at h3; cases h3
theorem last_le {L : List Ent} (h : okB L) : ∀ {j : Nat}, j < (blksE L).length → ∀ {i : Nat}, i ≤ j → Op.bytesLess (lastK ((blksE L).getD j [])) (lastK ((blksE L).getD i [])) = false
  | 0, hj, i, hi => by obtain rfl : i = 0 := by omega
                       exact bl_irr _
  | j + 1, hj, i, hi => by
    by_cases e : i = j + 1
    · rw [e]; exact bl_irr _
    · have h1 := last_le h (j := j) (by omega) (i := i) (by omega)
      have h2 := blks_order h (i := j) hj
      have h3 := first_last (blks_ok h _ (getD_mem hj))
      exact le_trans' h1 (le_trans' h2 h3)
theorem first_le' {L : List Ent} (h : okB L) {i j : Nat} (hij : i ≤ j) (hj : j < (blksE L).length) : Op.bytesLess (firstK ((blksE L).getD j [])) (firstK ((blksE L).getD i [])) = false := by
  by_cases e : i = j
  · rw [e]; exact bl_irr _
  · obtain ⟨j, rfl⟩ : ∃ k, j = k + 1 := ⟨j - 1, by omega⟩
    have h1 := last_le h (j := j) (by omega) (i := i) (by omega)
    have h2 := blks_order h (i := j) hj
    have h3 := first_last (blks_ok h _ (getD_mem (i := i) (by omega)))
    exact le_trans' h3 (le_trans' h1 h2)
theorem first_all {L : List Ent} (h : okB L) : firstK ((blksE L).getD 0 []) = firstK L := by
  cases L with
  | nil => exact absurd rfl h.2.1
  | cons e r =>
    have hp := blksE_pos (L := e :: r) (by simp)
    have hn := blksE_ne _ (getD_mem hp)
    have hf := blksE_flat (e :: r)
    cases hb : blksE (e :: r) with
    | nil => rw [hb] at hp; simp at hp
    | cons b bs =>
      rw [hb] at hn hf
      have hn : b ≠ [] := hn
      show firstK b = _
      cases b with
      | nil => exact absurd rfl hn
      | cons x b =>
        rw [List.flatten_cons, List.cons_append] at hf
        have := (List.cons.inj hf).1
        subst this; rfl
theorem getD_last {α : Type} {d : α} : ∀ {A B : List α}, B ≠ [] → (A ++ B).getD ((A ++ B).length - 1) d = B.getD (B.length - 1) d := fun {A B} hB => by
  have : 1 ≤ B.length := by cases B with | nil => exact absurd rfl hB | cons => simp
  rw [List.length_append]
  simp only [List.getD, List.getElem?_append]
  rw [if_neg (by omega), show A.length + B.length - 1 - A.length = B.length - 1 by omega]
theorem last_flat : ∀ {bs : List (List Ent)}, bs ≠ [] → (∀ b ∈ bs, b ≠ []) → lastK (bs.getD (bs.length - 1) []) = lastK bs.flatten
  | [], h, _ => absurd rfl h
  | [b], _, _ => by simp
  | b :: c :: bs, _, hn => by
    have ih := last_flat (bs := c :: bs) (by simp) fun b hb => hn b (List.mem_cons_of_mem _ hb)
    have hne : (c :: bs).flatten ≠ [] := by
      have : c ≠ [] := hn c (by simp)
      rw [List.flatten_cons]; simp [this]
    have e1 : (b :: c :: bs).getD ((b :: c :: bs).length - 1) [] = (c :: bs).getD ((c :: bs).length - 1) [] := by simp [List.getD]
    rw [e1, ih, show (b :: c :: bs).flatten = b ++ (c :: bs).flatten from List.flatten_cons]
    unfold lastK
    rw [getD_last hne]
theorem last_all {L : List Ent} (h : okB L) : lastK ((blksE L).getD ((blksE L).length - 1) []) = lastK L := by
  have hp := blksE_pos h.2.1
  have := last_flat (bs := blksE L) (by intro e; rw [e] at hp; simp at hp) blksE_ne
  rw [blksE_flat] at this; exact this
theorem pcs_at {L : List Ent} {i : Nat} (hi : i < (blksE L).length) : ((blksE L).map pcOf).getD i default = pcOf ((blksE L).getD i []) := by simp [List.getD, hi]
theorem tcount_ok {h : H} {p : B} {L : List Ent} (T : Tb h p L) : FnOk Try.prog 19 [tp p] h fun y h' => y = .i .i64 (L.length : Int) ∧ h' = h := by
  refine fn_go c19 (by intro hb; cases hb) (by simp) (by simp) fun Q hQ => ?_
  simp only [slotsF, Nat.reduceAdd]
  obtain ⟨v, a1, a2, a3, a4⟩ := T.at'
  repeat' (first
    | refine St.h ?_
    | simp (disch := first | omega | (simp only [lnv]; omega)) only [wlk, ↓get_put', ↓reduceIte, seval, tp, a1.l1]
    | (with_reducible (first | apply cd_split | apply gd_split)) <;> (intro hc; (try simp only [hcn] at hc); (try simp only [hc]); (try simp only [hcl] at hc); try omega))
  subst hQ
  exact ⟨rfl, rfl⟩
theorem tblocks_ok {h : H} {p : B} {L : List Ent} (T : Tb h p L) : FnOk Try.prog 20 [tp p] h fun y h' => y = .i .i64 ((blksE L).length : Int) ∧ h' = h := by
  refine fn_go c20 (by intro hb; cases hb) (by simp) (by simp) fun Q hQ => ?_
  simp only [slotsF, Nat.reduceAdd]
  obtain ⟨v, a1, a2, a3, a4⟩ := T.at'
  have hm : ((blksE L).map pcOf).length = (blksE L).length := List.length_map _
  repeat' (first
    | refine St.h ?_
    | simp (disch := first | omega | (simp only [lnv]; omega)) only [wlk, ↓get_put', ↓reduceIte, seval, tp, a1.l1, a3.ln, hm]
    | (with_reducible (first | apply cd_split | apply gd_split)) <;> (intro hc; (try simp only [hcn] at hc); (try simp only [hc]); (try simp only [hcl] at hc); try omega))
  subst hQ
  exact ⟨rfl, rfl⟩
theorem tends_ok {h : H} {p : B} {L : List Ent} (T : Tb h p L) (ho : okB L) (hl : L.length ≤ 100) (hf : B.val h.floor ≤ B.val h.next) : FnOk Try.prog 16 [tp p] h fun y h' => y = .tu [sv (firstK L), sv (lastK L)] ∧ h' = h := by
  refine fn_go c16 (by intro hb; cases hb) (by simp) (by simp) fun Q hQ => ?_
  simp only [slotsF, Nat.reduceAdd]
  obtain ⟨v, a1, a2, a3, a4⟩ := T.at'
  have hm : ((blksE L).map pcOf).length = (blksE L).length := List.length_map _
  have hp := blksE_pos ho.2.1
  have hbl := blksE_len L
  have e1 : (((blksE L).length : Int) - 1).toNat = (blksE L).length - 1 := by omega
  have p0 := pcs_at (L := L) (i := 0) (by omega)
  have pn := pcs_at (L := L) (i := (blksE L).length - 1) (by omega)
  have l00 : ∀ N, L1 Try.prog (lid v) (lg v) (loff v + 1) (lfin v) h N = N.go Try.prog (sv (firstK L)) h := fun N => by
    have := a3.l1 (P := Try.prog) (N := N) (i := 0) (by rw [hm]; omega)
    rw [Nat.zero_mul, Nat.add_zero, p0] at this
    rw [this]; show N.go _ (sv (firstK _)) h = _; rw [first_all ho]
  have l0n : ∀ N, L1 Try.prog (lid v) (lg v) (loff v + ((blksE L).length - 1) * 3 + 2) (lfin v) h N = N.go Try.prog (sv (lastK L)) h := fun N => by
    have := a3.l2 (P := Try.prog) (N := N) (i := (blksE L).length - 1) (by rw [hm]; omega)
    rw [pn] at this
    rw [this]; show N.go _ (sv (lastK _)) h = _; rw [last_all ho]
  repeat' (first
    | refine St.h ?_
    | simp (disch := first | omega | (simp only [lnv]; omega)) only [wlk, ↓get_put', ↓reduceIte, seval, tp, a1.l1, a3.ln, a3.ix, hm, e1, l00, l0n]
    | (with_reducible (first | apply cd_split | apply gd_split)) <;> (intro hc; (try simp only [hcn] at hc); (try simp only [hc]); (try simp only [hcl] at hc); try omega))
  subst hQ
  exact ⟨rfl, rfl⟩
theorem search_ok {h : H} {n : Nat} {fn : FuncId} {cs : List V} {p : Nat → Bool} (hn : n ≤ 1000000) (hp : ∀ i, i < n → FnOk Try.prog fn (.i .i64 (i : Int) :: cs) h fun y h' => y = .b (p i) ∧ h' = h) :
    FnOk Try.prog 66 [.i .i64 (n : Int), .f fn cs] h fun y h' => ∃ k : Nat, y = .i .i64 (k : Int) ∧ h' = h ∧ k ≤ n ∧ (0 < k → p (k - 1) = false) ∧ (k < n → p k = true) := by
  refine fn_go c66 (by intro hb; cases hb) (by simp) (by simp) fun Q hQ => ?_
  simp only [slotsF, Nat.reduceAdd]
  repeat' (first
    | refine St.h ?_
    | simp (disch := first | omega | (simp only [lnv]; omega)) only [wlk, ↓get_put', ↓reduceIte, seval]
    | (with_reducible (first | apply cd_split | apply gd_split)) <;> (intro hc; (try simp only [hcn] at hc); (try simp only [hc]); (try simp only [hcl] at hc); try omega))
  refine Ok.lp (fun m t g => ∃ i j : Nat, m = j - i ∧ i ≤ j ∧ j ≤ n ∧ h = g ∧ (0 < i → p (i - 1) = false) ∧ (j < n → p j = true) ∧ get 1 t = .f fn cs ∧ get 5 t = .i .i64 (i : Int) ∧ get 6 t = .i .i64 (j : Int)) n ?_ ?_
  · simp (disch := first | omega | (simp only [lnv]; omega)) only [wlk, ↓get_put', ↓reduceIte, seval]
    refine ⟨0, n, by omega, by omega, by omega, trivial, fun h => by omega, fun h => by omega, ?_, ?_, ?_⟩ <;> first | trivial | rfl
  rintro I hI m t g ⟨i, j, rfl, hij, hjn, rfl, h1, h2, f1, f5, f6⟩
  by_cases hlt : i < j
  case neg =>
    obtain rfl : i = j := by omega
    repeat' (first
      | refine St.h ?_
      | simp (disch := first | omega | (simp only [lnv]; omega)) only [wlk, ↓get_put', ↓reduceIte, seval, f1, f5, f6]
      | (with_reducible (first | apply cd_split | apply gd_split)) <;> (intro hc; (try simp only [hcn] at hc); (try simp only [hc]); (try simp only [hcl] at hc); try omega))
    subst hQ
    exact ⟨i, rfl, rfl, hjn, h1, h2⟩
  have hm : ((i : Int) + (j : Int)).toNat / 2 = (i + j) / 2 := by omega
  have hm2 : ((i : Int) + (j : Int)) / 2 = (((i + j) / 2 : Nat) : Int) := by omega
  repeat' (first
    | refine St.h ?_
    | simp (disch := first | omega | (simp only [lnv]; omega)) only [wlk, ↓get_put', ↓reduceIte, seval, f1, f5, f6, hm, hm2]
    | (with_reducible (first | apply cd_split | apply gd_split)) <;> (intro hc; (try simp only [hcn] at hc); (try simp only [hc]); (try simp only [hcl] at hc); try omega))
  have hg := hp ((i + j) / 2) (by omega)
  refine CL.pure hg ?_
  cases hb : p ((i + j) / 2) with
  | true =>
    repeat' (first
      | refine St.h ?_
      | simp (disch := first | omega | (simp only [lnv]; omega)) only [wlk, ↓get_put', ↓reduceIte, seval, f1, f5, f6]
      | (with_reducible (first | apply cd_split | apply gd_split)) <;> (intro hc; (try simp only [hcn] at hc); (try simp only [hc]); (try simp only [hcl] at hc); try omega))
    refine lp_next hI ((i + j) / 2 - i) (by omega) ⟨i, (i + j) / 2, rfl, by omega, by omega, rfl, h1, fun _ => hb, ?_, ?_, ?_⟩
    · simp (disch := first | omega | (simp only [lnv]; omega)) only [wlk, ↓get_put', ↓reduceIte, seval, f1]
    · simp (disch := first | omega | (simp only [lnv]; omega)) only [wlk, ↓get_put', ↓reduceIte, seval, f5]
    · simp (disch := first | omega | (simp only [lnv]; omega)) only [wlk, ↓get_put', ↓reduceIte, seval]
  | false =>
    repeat' (first
      | refine St.h ?_
      | simp (disch := first | omega | (simp only [lnv]; omega)) only [wlk, ↓get_put', ↓reduceIte, seval, f1, f5, f6]
      | (with_reducible (first | apply cd_split | apply gd_split)) <;> (intro hc; (try simp only [hcn] at hc); (try simp only [hc]); (try simp only [hcl] at hc); try omega))
    refine lp_next hI (j - ((i + j) / 2 + 1)) (by omega) ⟨(i + j) / 2 + 1, j, rfl, by omega, by omega, rfl, fun _ => by rw [Nat.add_sub_cancel]; exact hb, h2, ?_, ?_, ?_⟩
    · simp (disch := first | omega | (simp only [lnv]; omega)) only [wlk, ↓get_put', ↓reduceIte, seval, f1]
    · simp (disch := first | omega | (simp only [lnv]; omega)) only [wlk, ↓get_put', ↓reduceIte, seval]; rfl
    · simp (disch := first | omega | (simp only [lnv]; omega)) only [wlk, ↓get_put', ↓reduceIte, seval, f6]
/-- the closure: is that piece's last key not below the key -/
theorem least_ok {h : H} {i : Nat} {b2 b3 p : B} {v : V} {ps : List Pc} {key : List UInt8} {c s : V} (r2 : Row h b2 0 0 [tp p]) (r3 : Row h b3 0 0 [sv key]) (rt : Row h p 0 0 [c, v, s]) (hps : Ps h v ps) (hi : i < ps.length) (hl : ps.length ≤ 1000000) :
    FnOk Try.prog 67 [.i .i64 (i : Int), .p b2 0 0 1, .p b3 0 0 1] h fun y h' => y = .b (!Op.bytesLess (ps.getD i default).l key) ∧ h' = h := by
  refine fn_go c67 (by intro hb; cases hb) (by simp) (by simp) fun Q hQ => ?_
  simp only [slotsF, Nat.reduceAdd]
  repeat' (first
    | refine St.h ?_
    | simp (disch := first | omega | (simp only [lnv]; omega)) only [wlk, ↓get_put', ↓reduceIte, seval, r2.l1, r3.l1, rt.l1, tp, hps.ix, hps.l2, Int.toNat_natCast]
    | (with_reducible (first | apply cd_split | apply gd_split)) <;> (intro hc; (try simp only [hcn] at hc); (try simp only [hc]); (try simp only [hcl] at hc); try omega))
  subst hQ
  exact ⟨rfl, rfl⟩
theorem reaching_ok {h0 h : H} {p : B} {L : List Ent} {key : List UInt8} (T : Tb h0 p L) (s0 : Stay nowhere h0 h) (ho : okB L) (hl : L.length ≤ 100) (hf : B.val h.floor ≤ B.val h.next) : FnOk Try.prog 43 [tp p, sv key] h fun y h' =>
    ∃ k, k ≤ (blksE L).length ∧ Ps h0 y (((blksE L).map pcOf).drop k) ∧ Stay nowhere h h' ∧ ∀ i, i < k → Op.bytesLess (lastK ((blksE L).getD i [])) key = true := by
  refine fn_go c43 (by intro hb; cases hb) (by simp) (by simp) fun Q hQ => ?_
  simp only [slotsF, Nat.reduceAdd]
  obtain ⟨v, a1, a2, a3, a4⟩ := T.at'
  have hm : ((blksE L).map pcOf).length = (blksE L).length := List.length_map _
  have hbl := blksE_len L
  unfold tp
  repeat' (first
    | refine St.h ?_
    | simp (disch := first | omega | (simp only [lnv]; omega)) only [wlk, ↓get_put', ↓reduceIte, seval]
    | (with_reducible (first | apply cd_split | apply gd_split)) <;> (intro hc; (try simp only [hcn] at hc); (try simp only [hc]); (try simp only [hcl] at hc); try omega))
  refine AL.own (by simp) hf fun h1 s1 n1 o1 => ?_
  have hf1 := s1.fl hf
  repeat' (first
    | refine St.h ?_
    | simp (disch := first | omega | (simp only [lnv]; omega)) only [wlk, ↓get_put', ↓reduceIte, seval]
    | (with_reducible (first | apply cd_split | apply gd_split)) <;> (intro hc; (try simp only [hcn] at hc); (try simp only [hc]); (try simp only [hcl] at hc); try omega))
  refine AL.own (by simp) hf1 fun h2 s2 n2 o2 => ?_
  have hf2 := s2.fl hf1
  have o12 := o1.stay s2 fun h => h
  have s02 := s1.trans s2
  have r1 := a1.grow (s0.trans s02) a2
  have a3' := a3.grow (s0.trans s02)
  have hcl : ∀ i, i < (blksE L).length → FnOk Try.prog 67 (.i .i64 (i : Int) :: [.p h.next 0 0 1, .p h1.next 0 0 1]) h2 fun y h' => y = .b (!Op.bytesLess (lastK ((blksE L).getD i [])) key) ∧ h' = h2 := fun i hi => by
    have := least_ok (i := i) (p := p) o12.row o2.row r1 a3' (by rw [hm]; exact hi) (by rw [hm]; omega)
    rw [pcs_at hi] at this
    exact this
  repeat' (first
    | refine St.h ?_
    | simp (disch := first | omega | (simp only [lnv]; omega)) only [wlk, ↓get_put', ↓reduceIte, seval, o12.row.l1, r1.l1, a3.ln, hm]
    | (with_reducible (first | apply cd_split | apply gd_split)) <;> (intro hc; (try simp only [hcn] at hc); (try simp only [hc]); (try simp only [hcl] at hc); try omega))
  refine CL.mk (search_ok (by omega) hcl) ?_
  rintro _ _ ⟨k, rfl, rfl, hk, k1, k2⟩
  obtain ⟨u, u1, u2, u3⟩ := Ss.lo (P := Try.prog) (kd := .i64) a3 pcC_len a4 (k := k) (by rw [hm]; exact hk)
  repeat' (first
    | refine St.h ?_
    | simp (disch := first | omega | (simp only [lnv]; omega)) only [wlk, ↓get_put', ↓reduceIte, seval, o12.row.l1, r1.l1, u3]
    | (with_reducible (first | apply cd_split | apply gd_split)) <;> (intro hc; (try simp only [hcn] at hc); (try simp only [hc]); (try simp only [hcl] at hc); try omega))
  subst hQ
  refine ⟨k, hk, u1, s02, fun i hi => ?_⟩
  have h1 := k1 (by omega)
  have h2 : Op.bytesLess (lastK ((blksE L).getD (k - 1) [])) key = true := by simpa using h1
  have h3 := last_le ho (j := k - 1) (by omega) (i := i) (by omega)
  by_cases e : lastK ((blksE L).getD i []) = lastK ((blksE L).getD (k - 1) [])
  · rw [e]; exact h2
  · rcases bl_total e with h4 | h4
    · exact bl_trans h4 h2
    · rw [h3] at h4; cases h4
end Go.Proofs.Ytiingkpdodbldaa

set_option maxRecDepth 100000
set_option maxHeartbeats 8000000
set_option linter.all false
namespace Go.Proofs.Ytiingkpdodbldaa
open Go Go.Ev
theorem pnewest_ok {h : H} {b : List Ent} {f l key : List UInt8} {seq : Int} (ho : okB b) (hl : b.length ≤ 100) (hf : B.val h.floor ≤ B.val h.next) : FnOk Try.prog 44 [.a [sv (blkB b), sv f, sv l], sv key, .i .i64 seq] h fun y h' =>
    y = .tu [.a (entC (newestE b key seq).1), .b (newestE b key seq).2, .i .i64 0] ∧ Stay nowhere h h' := by
  refine fn_go c44 (by intro hb; cases hb) (by simp) (by simp) fun Q hQ => ?_
  simp only [slotsF, Nat.reduceAdd]
  have hbl := blkB_len hl
  repeat' (first
    | refine St.h ?_
    | simp (disch := first | omega | (simp only [lnv]; omega)) only [wlk, ↓get_put', ↓reduceIte, seval]
    | (with_reducible (first | apply cd_split | apply gd_split)) <;> (intro hc; (try simp only [hcn] at hc); (try simp only [hc]); (try simp only [hcl] at hc); try omega))
  refine AL.own (by simp) hf fun h1 s1 n1 o1 => ?_
  have hf1 := s1.fl hf
  repeat' (first
    | refine St.h ?_
    | simp (disch := first | omega | (simp only [lnv]; omega)) only [wlk, ↓get_put', ↓reduceIte, seval]
    | (with_reducible (first | apply cd_split | apply gd_split)) <;> (intro hc; (try simp only [hcn] at hc); (try simp only [hc]); (try simp only [hcl] at hc); try omega))
  refine AL.own (by simp) hf1 fun h2 s2 n2 o2 => ?_
  have hf2 := s2.fl hf1
  have o12 := o1.stay s2 fun h => h
  repeat' (first
    | refine St.h ?_
    | simp (disch := first | omega | (simp only [lnv]; omega)) only [wlk, ↓get_put', ↓reduceIte, seval, o12.row.l1]
    | (with_reducible (first | apply cd_split | apply gd_split)) <;> (intro hc; (try simp only [hcn] at hc); (try simp only [hc]); (try simp only [hcl] at hc); try omega))
  refine CL.mk (bread_ok (by omega) hf2) ?_
  rintro _ h3 ⟨v, rfl, hv, s3⟩
  have hf3 := s3.fl hf2
  rw [blkB_read ho (by omega)] at hv ⊢
  have hv : Es h3 v b := hv
  have o23 := o2.stay s3 fun h => h
  repeat' (first
    | refine St.h ?_
    | simp (disch := first | omega | (simp only [lnv]; omega)) only [wlk, ↓get_put', ↓reduceIte, seval]
    | (with_reducible (first | apply cd_split | apply gd_split)) <;> (intro hc; (try simp only [hcn] at hc); (try simp only [hc]); (try simp only [hcl] at hc); try omega))
  refine CL.stay (newest_ok hv (by omega) hf3) fun h4 s4 => ?_
  have hf4 := s4.fl hf3
  have o24 := o23.stay s4 fun h => h
  generalize newestE b key seq = r at *
  obtain ⟨⟨rk, rq, rd, rv⟩, rb⟩ := r
  unfold twoE entC
  repeat' (first
    | refine St.h ?_
    | simp (disch := first | omega | (simp only [lnv]; omega)) only [wlk, ↓get_put', ↓reduceIte, seval]
    | (with_reducible (first | apply cd_split | apply gd_split)) <;> (intro hc; (try simp only [hcn] at hc); (try simp only [hc]); (try simp only [hcl] at hc); try omega))
  refine AL.own (by simp) hf4 fun h5 s5 n5 o5 => ?_
  have hf5 := s5.fl hf4
  have o25 := o24.stay s5 fun h => h
  repeat' (first
    | refine St.h ?_
    | simp (disch := first | omega | (simp only [lnv]; omega)) only [wlk, ↓get_put', ↓reduceIte, seval]
    | (with_reducible (first | apply cd_split | apply gd_split)) <;> (intro hc; (try simp only [hcn] at hc); (try simp only [hc]); (try simp only [hcl] at hc); try omega))
  refine ST.all o5 rfl rfl (by simp) (by simp) fun h6 o6 s6 => ?_
  have hlt : B.val h1.next < B.val h4.next := own_lt' o24
  have o26 := o25.stay s6 (b_ne hlt)
  have s46 : Stay nowhere h4 h6 := s5.past' s6 fun q hq => by rw [hq]; exact Nat.le_refl _
  repeat' (first
    | refine St.h ?_
    | simp (disch := first | omega | (simp only [lnv]; omega)) only [wlk, ↓get_put', ↓reduceIte, seval, o6.row.ln]
    | (with_reducible (first | apply cd_split | apply gd_split)) <;> (intro hc; (try simp only [hcn] at hc); (try simp only [hc]); (try simp only [hcl] at hc); try omega))
  refine ST.all o26 rfl rfl (by simp) (by simp) fun g og sg => ?_
  repeat' (first
    | refine St.h ?_
    | simp (disch := first | omega | (simp only [lnv]; omega)) only [wlk, ↓get_put', ↓reduceIte, seval, og.ra4]
    | (with_reducible (first | apply cd_split | apply gd_split)) <;> (intro hc; (try simp only [hcn] at hc); (try simp only [hc]); (try simp only [hcl] at hc); try omega))
  subst hQ
  exact ⟨rfl, ((((s1.trans s2).trans s3).trans s4).trans s46).past' sg fun q hq => by rw [hq]; exact s1.next⟩
theorem tget_ok {h : H} {p : B} {L : List Ent} {key : List UInt8} {seq : Int} (T : Tb h p L) (ho : okB L) (hl : L.length ≤ 100) (hk : key.length ≤ 1000000) (hf : B.val h.floor ≤ B.val h.next) : FnOk Try.prog 12 [tp p, sv key, .i .i64 seq] h fun y h' =>
    y = .tu [.a (entC (newestE L key seq).1), .b (newestE L key seq).2, .i .i64 0] ∧ Stay nowhere h h' := by
  refine fn_go c12 (by intro hb; cases hb) (by simp) (by simp) fun Q hQ => ?_
  simp only [slotsF, Nat.reduceAdd]
  unfold tp
  have hsl : (sieveB (keysE L)).length ≤ 1000 := by have := tab_lens ho hl; omega
  have hm : ((blksE L).map pcOf).length = (blksE L).length := List.length_map _
  have hbl := blksE_len L
  repeat' (first
    | refine St.h ?_
    | simp (disch := first | omega | (simp only [lnv]; omega)) only [wlk, ↓get_put', ↓reduceIte, seval]
    | (with_reducible (first | apply cd_split | apply gd_split)) <;> (intro hc; (try simp only [hcn] at hc); (try simp only [hc]); (try simp only [hcl] at hc); try omega))
  refine AL.own (by simp) hf fun h1 s1 n1 o1 => ?_
  have hf1 := s1.fl hf
  have T1 := T.grow s1
  obtain ⟨v, a1, a2, a3, a4⟩ := T1.at'
  repeat' (first
    | refine St.h ?_
    | simp (disch := first | omega | (simp only [lnv]; omega)) only [wlk, ↓get_put', ↓reduceIte, seval, a1.l1]
    | (with_reducible (first | apply cd_split | apply gd_split)) <;> (intro hc; (try simp only [hcn] at hc); (try simp only [hc]); (try simp only [hcl] at hc); try omega))
  refine CL.stay (may_ok (by omega) hk hf1) fun h2 s2 => ?_
  have hf2 := s2.fl hf1
  have o12 := o1.stay s2 fun h => h
  have s02 := s1.trans s2
  have T2 := T1.grow s2
  cases hmay : mayB (sieveB (keysE L)) key with
  | false =>
    repeat' (first
      | refine St.h ?_
      | simp (disch := first | omega | (simp only [lnv]; omega)) only [wlk, ↓get_put', ↓reduceIte, seval]
      | (with_reducible (first | apply cd_split | apply gd_split)) <;> (intro hc; (try simp only [hcn] at hc); (try simp only [hc]); (try simp only [hcl] at hc); try omega))
    refine ST.all o12 rfl rfl (by simp) (by simp) fun g og sg => ?_
    repeat' (first
      | refine St.h ?_
      | simp (disch := first | omega | (simp only [lnv]; omega)) only [wlk, ↓get_put', ↓reduceIte, seval, og.ra4]
      | (with_reducible (first | apply cd_split | apply gd_split)) <;> (intro hc; (try simp only [hcn] at hc); (try simp only [hc]); (try simp only [hcl] at hc); try omega))
    subst hQ
    exact ⟨by rw [newest_none (newest_may hmay)]; rfl, s02.past' sg fun q hq => by rw [hq]; exact Nat.le_refl _⟩
  | true =>
  repeat' (first
    | refine St.h ?_
    | simp (disch := first | omega | (simp only [lnv]; omega)) only [wlk, ↓get_put', ↓reduceIte, seval]
    | (with_reducible (first | apply cd_split | apply gd_split)) <;> (intro hc; (try simp only [hcn] at hc); (try simp only [hc]); (try simp only [hcl] at hc); try omega))
  refine AL.own (by simp) hf2 fun h3 s3 n3 o3 => ?_
  have hf3 := s3.fl hf2
  have o13 := o12.stay s3 fun h => h
  have T3 := T2.grow s3
  have s03 := s02.trans s3
  repeat' (first
    | refine St.h ?_
    | simp (disch := first | omega | (simp only [lnv]; omega)) only [wlk, ↓get_put', ↓reduceIte, seval]
    | (with_reducible (first | apply cd_split | apply gd_split)) <;> (intro hc; (try simp only [hcn] at hc); (try simp only [hc]); (try simp only [hcl] at hc); try omega))
  refine CL.mk (reaching_ok (key := key) T s03 ho hl hf3) ?_
  rintro u h4 ⟨k, hk1, hu, s4, hlo⟩
  have hf4 := s4.fl hf3
  have o14 := o13.stay s4 fun h => h
  have o34 := o3.stay s4 fun h => h
  have s04 := s03.trans s4
  have hul : (((blksE L).map pcOf).drop k).length = (blksE L).length - k := by rw [List.length_drop, hm]
  have hb1 : B.val h.next < B.val h2.next := own_lt' o12
  repeat' (first
    | refine St.h ?_
    | simp (disch := first | omega | (simp only [lnv]; omega)) only [wlk, ↓get_put', ↓reduceIte, seval, hu.ln, hul]
    | (with_reducible (first | apply cd_split | apply gd_split)) <;> (intro hc; (try simp only [hcn] at hc); (try simp only [hc]); (try simp only [hcl] at hc); try omega))
  refine Ok.lp (fun m t g => ∃ j : Nat, m = (blksE L).length - k - j ∧ j ≤ (blksE L).length - k ∧ get 1 t = sv key ∧ get 2 t = .i .i64 seq ∧ get 6 t = .p h.next 0 0 4 ∧ get 9 t = .p h2.next 0 0 4 ∧ get 10 t = .b false ∧ get 11 t = .i .i64 0 ∧ get 24 t = u ∧ get 25 t = .i .i64 (((blksE L).length - k : Nat) : Int) ∧ get 26 t = .i .i64 (j : Int) ∧ Ev.Own g h.next (entC entZ) ∧ Ev.Own g h2.next (entC entZ) ∧ Stay nowhere h g ∧ ∀ i, i < k + j → newestO ((blksE L).getD i []) key seq = none) ((blksE L).length - k) ?_ ?_
  · simp (disch := first | omega | (simp only [lnv]; omega)) only [wlk, ↓get_put', ↓reduceIte, seval, hul]
    refine ⟨0, by omega, by omega, ?_, ?_, ?_, ?_, ?_, ?_, ?_, ?_, ?_, o14, o34, s04, fun i hi => newest_out (blks_ok ho _ (getD_mem (by omega))) (.inr (hlo i (by omega)))⟩ <;> first | trivial | rfl
  rintro I hI m t g ⟨j, rfl, hj, f1, f2, f6, f9, f10, f11, f24, f25, f26, og1, og2, st, hno⟩
  have hfg := st.fl hf
  by_cases hjl : j < (blksE L).length - k
  case neg =>
    obtain rfl : j = (blksE L).length - k := by omega
    have hmiss := newest_miss ho (key := key) (seq := seq) fun i hi => hno i (by omega)
    unfold entC at og2
    repeat' (first
      | refine St.h ?_
      | simp (disch := first | omega | (simp only [lnv]; omega)) only [wlk, ↓get_put', ↓reduceIte, seval, f6, f9, f10, f11, f24, f25, f26, og2.row.ln]
      | (with_reducible (first | apply cd_split | apply gd_split)) <;> (intro hc; (try simp only [hcn] at hc); (try simp only [hc]); (try simp only [hcl] at hc); try omega))
    refine ST.all og1 rfl rfl (by simp) (by simp) fun g' og' sg => ?_
    repeat' (first
      | refine St.h ?_
      | simp (disch := first | omega | (simp only [lnv]; omega)) only [wlk, ↓get_put', ↓reduceIte, seval, f6, og'.ra4]
      | (with_reducible (first | apply cd_split | apply gd_split)) <;> (intro hc; (try simp only [hcn] at hc); (try simp only [hc]); (try simp only [hcl] at hc); try omega))
    subst hQ
    exact ⟨by rw [newest_none hmiss]; rfl, st.past' sg fun q hq => by rw [hq]; exact Nat.le_refl _⟩
  have hkj : k + j < (blksE L).length := by omega
  have hub : (((blksE L).map pcOf).drop k).getD j default = pcOf ((blksE L).getD (k + j) []) := by
    rw [← pcs_at hkj]; simp [List.getD, List.getElem?_drop]
  have hug := Ps.grow hu st
  have hok := blks_ok ho _ (getD_mem hkj)
  have hle := blks_each hkj
  generalize hbk : (blksE L).getD (k + j) [] = bk at *
  repeat' (first
    | refine St.h ?_
    | simp (disch := first | omega | (simp only [lnv]; omega)) only [wlk, ↓get_put', ↓reduceIte, seval, f1, f2, f24, f25, f26, hug.ix, hug.la, hub, hul, Int.toNat_natCast]
    | (with_reducible (first | apply cd_split | apply gd_split)) <;> (intro hc; (try simp only [hcn] at hc); (try simp only [hc]); (try simp only [hcl] at hc); try omega))
  refine AL.own (by simp) hfg fun g1 t1 _ o1' => ?_
  have hfg1 := t1.fl hfg
  have og11 := og1.stay t1 fun h => h
  have og21 := og2.stay t1 fun h => h
  repeat' (first
    | refine St.h ?_
    | simp (disch := first | omega | (simp only [lnv]; omega)) only [wlk, ↓get_put', ↓reduceIte, seval, f1, f2, f24, f25, f26, hug.ix, hug.la, hub, Int.toNat_natCast]
    | (with_reducible (first | apply cd_split | apply gd_split)) <;> (intro hc; (try simp only [hcn] at hc); (try simp only [hc]); (try simp only [hcl] at hc); try omega))
  refine ST.all o1' rfl rfl (by simp) (by simp) fun g2 o2' t2 => ?_
  have hg1 : B.val h.next < B.val g.next := own_lt' og1
  have hg2 : B.val h2.next < B.val g.next := own_lt' og2
  have og12 := og11.stay t2 (b_ne hg1)
  have og22 := og21.stay t2 (b_ne hg2)
  have t02 : Stay nowhere g g2 := t1.past' t2 fun q hq => by rw [hq]; exact Nat.le_refl _
  have hfg2 := t02.fl hfg
  have hout : (Op.bytesLess (firstK bk) key || decide (firstK bk = key)) = false → newestO L key seq = none := fun hx => by
    rw [Bool.or_eq_false_iff] at hx
    refine newest_miss ho fun i hi => ?_
    by_cases hik : i < k + j
    · exact hno i hik
    · have h1 := first_le' ho (i := k + j) (j := i) (by omega) hi
      rw [hbk] at h1
      refine newest_out (blks_ok ho _ (getD_mem hi)) (.inl ?_)
      have h2 : Op.bytesLess key (firstK bk) = true := by
        have hne : firstK bk ≠ key := by have := hx.2; rwa [decide_eq_false_iff_not] at this
        rcases bl_total hne with h3 | h3
        · rw [hx.1] at h3; cases h3
        · exact h3
      by_cases e : firstK ((blksE L).getD i []) = firstK bk
      · rw [e]; exact h2
      · rcases bl_total e with h4 | h4
        · rw [h1] at h4; cases h4
        · exact bl_trans h2 h4
  have hpb : pcOf bk = ⟨blkB bk, firstK bk, lastK bk⟩ := rfl
  rw [hpb] at o2'
  cases hfk : (Op.bytesLess (firstK bk) key || decide (firstK bk = key)) with
  | false =>
    unfold entC at og22
    repeat' (first
      | refine St.h ?_
      | simp (disch := first | omega | (simp only [lnv]; omega)) only [wlk, ↓get_put', ↓reduceIte, seval, f1, f2, f6, f9, f10, f11, f24, f25, f26, o2'.row.l1, hfk, og22.row.ln]
      | (with_reducible (first | apply cd_split | apply gd_split)) <;> (intro hc; (try simp only [hcn] at hc); (try simp only [hc]); (try simp only [hcl] at hc); try omega))
    refine ST.all og12 rfl rfl (by simp) (by simp) fun g' og' sg => ?_
    repeat' (first
      | refine St.h ?_
      | simp (disch := first | omega | (simp only [lnv]; omega)) only [wlk, ↓get_put', ↓reduceIte, seval, f6, og'.ra4]
      | (with_reducible (first | apply cd_split | apply gd_split)) <;> (intro hc; (try simp only [hcn] at hc); (try simp only [hc]); (try simp only [hcl] at hc); try omega))
    subst hQ
    exact ⟨by rw [newest_none (hout hfk)]; rfl, (st.trans t02).past' sg fun q hq => by rw [hq]; exact Nat.le_refl _⟩
  | true =>
  repeat' (first
    | refine St.h ?_
    | simp (disch := first | omega | (simp only [lnv]; omega)) only [wlk, ↓get_put', ↓reduceIte, seval, f1, f2, f6, f9, f10, f11, f24, f25, f26, o2'.row.l1, hfk, o2'.row.ln]
    | (with_reducible (first | apply cd_split | apply gd_split)) <;> (intro hc; (try simp only [hcn] at hc); (try simp only [hc]); (try simp only [hcl] at hc); try omega))
  refine CL.stay (pnewest_ok (f := firstK bk) (l := lastK bk) (key := key) (seq := seq) hok (by omega) hfg2) fun g3 t3 => ?_
  have hfg3 := t3.fl hfg2
  have og13 := og12.stay t3 fun h => h
  have og23 := og22.stay t3 fun h => h
  have t03 := t02.trans t3
  generalize hr : newestE bk key seq = r
  obtain ⟨⟨rk, rq, rd, rv⟩, rb⟩ := r
  have hec : ∀ e : Ent, entC e = [sv e.key, .i .i64 e.seq, .b e.del, sv e.val] := fun _ => rfl
  rw [hec]
  repeat' (first
    | refine St.h ?_
    | simp (disch := first | omega | (simp only [lnv]; omega)) only [wlk, ↓get_put', ↓reduceIte, seval, f1, f2, f6, f9, f10, f11, f24, f25, f26]
    | (with_reducible (first | apply cd_split | apply gd_split)) <;> (intro hc; (try simp only [hcn] at hc); (try simp only [hc]); (try simp only [hcl] at hc); try omega))
  refine ST.all og23 rfl rfl (by simp) (by simp) fun g4 og4 t4 => ?_
  have hb2 : h.next ≠ h2.next := b_ne hb1
  have og14 := og13.stay t4 (by exact hb2)
  cases rb with
  | true =>
    have hhit : newestO L key seq = some ⟨rk, rq, rd, rv⟩ := by
      refine newest_hit ho hkj (fun i hi => hno i hi) ?_
      rw [hbk]
      have := newest_true (L := bk) (key := key) (seq := seq) (by rw [hr])
      rw [this, hr]
    repeat' (first
      | refine St.h ?_
      | simp (disch := first | omega | (simp only [lnv]; omega)) only [wlk, ↓get_put', ↓reduceIte, seval, f1, f2, f6, f9, f10, f11, f24, f25, f26, og4.row.ln]
      | (with_reducible (first | apply cd_split | apply gd_split)) <;> (intro hc; (try simp only [hcn] at hc); (try simp only [hc]); (try simp only [hcl] at hc); try omega))
    refine ST.all og14 rfl rfl (by simp) (by simp) fun g' og' sg => ?_
    repeat' (first
      | refine St.h ?_
      | simp (disch := first | omega | (simp only [lnv]; omega)) only [wlk, ↓get_put', ↓reduceIte, seval, f6, og'.ra4]
      | (with_reducible (first | apply cd_split | apply gd_split)) <;> (intro hc; (try simp only [hcn] at hc); (try simp only [hc]); (try simp only [hcl] at hc); try omega))
    subst hQ
    refine ⟨by rw [newest_some hhit]; rfl, ((st.trans t03).past' t4 fun q hq => ?_).past' sg fun q hq => ?_⟩
    · rw [hq]; exact s02.next
    · rw [hq]; exact Nat.le_refl _
  | false =>
    have hz : (⟨rk, rq, rd, rv⟩ : Ent) = entZ := by
      have h1 := newest_false (L := bk) (key := key) (seq := seq) (by rw [hr])
      have h2 := newest_none h1
      rw [hr] at h2
      exact (Prod.mk.inj h2).1
    have hz4 : ([sv rk, .i .i64 rq, .b rd, sv rv] : List V) = entC entZ := by rw [← hz]; rfl
    rw [hz4] at og4
    repeat' (first
      | refine St.h ?_
      | simp (disch := first | omega | (simp only [lnv]; omega)) only [wlk, ↓get_put', ↓reduceIte, seval, f1, f2, f6, f9, f10, f11, f24, f25, f26]
      | (with_reducible (first | apply cd_split | apply gd_split)) <;> (intro hc; (try simp only [hcn] at hc); (try simp only [hc]); (try simp only [hcl] at hc); try omega))
    refine lp_next hI ((blksE L).length - k - (j + 1)) (by omega) ⟨j + 1, rfl, by omega, ?_, ?_, ?_, ?_, ?_, ?_, ?_, ?_, ?_, og14, og4, (st.trans t03).past' t4 ?_, fun i hi => ?_⟩
    · simp (disch := first | omega | (simp only [lnv]; omega)) only [wlk, ↓get_put', ↓reduceIte, seval, f1]
    · simp (disch := first | omega | (simp only [lnv]; omega)) only [wlk, ↓get_put', ↓reduceIte, seval, f2]
    · simp (disch := first | omega | (simp only [lnv]; omega)) only [wlk, ↓get_put', ↓reduceIte, seval, f6]
    · simp (disch := first | omega | (simp only [lnv]; omega)) only [wlk, ↓get_put', ↓reduceIte, seval, f9]
    · simp (disch := first | omega | (simp only [lnv]; omega)) only [wlk, ↓get_put', ↓reduceIte, seval]
    · simp (disch := first | omega | (simp only [lnv]; omega)) only [wlk, ↓get_put', ↓reduceIte, seval]
    · simp (disch := first | omega | (simp only [lnv]; omega)) only [wlk, ↓get_put', ↓reduceIte, seval, f24]
    · simp (disch := first | omega | (simp only [lnv]; omega)) only [wlk, ↓get_put', ↓reduceIte, seval, f25]
    · simp (disch := first | omega | (simp only [lnv]; omega)) only [wlk, ↓get_put', ↓reduceIte, seval, f26]; rfl
    · rintro q rfl
      exact s02.next
    · by_cases hik : i = k + j
      · rw [hik, hbk]; exact newest_false (by rw [hr])
      · exact hno i (by omega)
end Go.Proofs.Ytiingkpdodbldaa

set_option maxRecDepth 100000
set_option maxHeartbeats 8000000
set_option linter.all false
namespace Go.Proofs.Ytiingkpdodbldaa
open Go Go.Ev
theorem range_no {L : List Ent} {fr to : List UInt8} (h : (decide (to = []) || Op.bytesLess fr to) = false) : rangeE L fr to = [] := by
  unfold rangeE
  rw [List.filter_eq_nil_iff]
  intro e _
  unfold inR
  rw [Bool.or_eq_false_iff] at h
  rw [h.1, Bool.false_or]
  cases h1 : Op.bytesLess e.key fr with
  | true => simp
  | false =>
    cases h2 : Op.bytesLess e.key to with
    | false => simp
    | true =>
      exfalso
      by_cases e1 : e.key = fr
      · rw [e1, h.2] at h2; cases h2
      · rcases bl_total e1 with h3 | h3
        · rw [h1] at h3; cases h3
        · have := bl_trans h3 h2; rw [h.2] at this; cases this
theorem rangeU_none {L : List Ent} {fr to : List UInt8} : ∀ {k : Nat}, k ≤ (blksE L).length → (∀ i, i < k → rangeE ((blksE L).getD i []) fr to = []) → rangeU L fr to k = []
  | 0, _, _ => rfl
  | k + 1, hk, h => by rw [rangeU_succ (by omega), rangeU_none (k := k) (by omega) (fun i hi => h i (by omega)), h k (by omega)]; rfl
theorem rangeU_rest {L : List Ent} {fr to : List UInt8} {n : Nat} : ∀ {d : Nat}, n + d = (blksE L).length → (∀ i, n ≤ i → i < (blksE L).length → rangeE ((blksE L).getD i []) fr to = []) → rangeU L fr to n = rangeE L fr to
  | 0, hd, _ => by rw [← rangeU_all, ← hd, Nat.add_zero]
  | d + 1, hd, h => by
    have := rangeU_rest (L := L) (fr := fr) (to := to) (n := n + 1) (d := d) (by omega) fun i h1 h2 => h i (by omega) h2
    rw [← this, rangeU_succ (by omega), h n (Nat.le_refl _) (by omega), List.append_nil]
theorem take_filter {b : List Ent} {i : Nat} {q : Ent → Bool} (hi : i < b.length) : (b.take (i + 1)).filter q = (b.take i).filter q ++ (if q (b.getD i default) then [b.getD i default] else []) := by
  rw [List.take_succ, List.filter_append]
  congr 1
  simp [List.getD, hi, List.filter_cons]
theorem trange_ok {h : H} {p : B} {L : List Ent} {fr to : List UInt8} (T : Tb h p L) (ho : okB L) (hl : L.length ≤ 100) (hf : B.val h.floor ≤ B.val h.next) : FnOk Try.prog 14 [tp p, sv fr, sv to] h fun y h' =>
    ∃ v, y = .tu [v, .i .i64 0] ∧ Es h' v (rangeE L fr to) ∧ Stay nowhere h h' := by
  refine fn_go c14 (by intro hb; cases hb) (by simp) (by simp) fun Q hQ => ?_
  simp only [slotsF, Nat.reduceAdd]
  unfold tp
  have hm : ((blksE L).map pcOf).length = (blksE L).length := List.length_map _
  have hbl := blksE_len L
  repeat' (first
    | refine St.h ?_
    | simp (disch := first | omega | (simp only [lnv]; omega)) only [wlk, ↓get_put', ↓reduceIte, seval]
    | (with_reducible (first | apply cd_split | apply gd_split)) <;> (intro hc; (try simp only [hcn] at hc); (try simp only [hc]); (try simp only [hcl] at hc); try omega))
  refine CL.pure isBelow_ok ?_
  cases hbe : (decide (to = []) || Op.bytesLess fr to) with
  | false =>
    repeat' (first
      | refine St.h ?_
      | simp (disch := first | omega | (simp only [lnv]; omega)) only [wlk, ↓get_put', ↓reduceIte, seval]
      | (with_reducible (first | apply cd_split | apply gd_split)) <;> (intro hc; (try simp only [hcn] at hc); (try simp only [hc]); (try simp only [hcl] at hc); try omega))
    subst hQ
    exact ⟨_, rfl, by rw [range_no hbe]; exact Ss.nil, Stay.refl _ _⟩
  | true =>
  repeat' (first
    | refine St.h ?_
    | simp (disch := first | omega | (simp only [lnv]; omega)) only [wlk, ↓get_put', ↓reduceIte, seval]
    | (with_reducible (first | apply cd_split | apply gd_split)) <;> (intro hc; (try simp only [hcn] at hc); (try simp only [hc]); (try simp only [hcl] at hc); try omega))
  refine CL.mk (reaching_ok (key := fr) T (Stay.refl _ _) ho hl hf) ?_
  rintro u h1 ⟨k, hk1, hu, s1, hlo⟩
  have hf1 := s1.fl hf
  have hul : (((blksE L).map pcOf).drop k).length = (blksE L).length - k := by rw [List.length_drop, hm]
  repeat' (first
    | refine St.h ?_
    | simp (disch := first | omega | (simp only [lnv]; omega)) only [wlk, ↓get_put', ↓reduceIte, seval, hu.ln, hul]
    | (with_reducible (first | apply cd_split | apply gd_split)) <;> (intro hc; (try simp only [hcn] at hc); (try simp only [hc]); (try simp only [hcl] at hc); try omega))
  refine Ok.lp (fun m t g => ∃ (j : Nat) (w : V), m = (blksE L).length - k - j ∧ j ≤ (blksE L).length - k ∧ get 1 t = sv fr ∧ get 2 t = sv to ∧ get 8 t = w ∧ get 21 t = u ∧ get 22 t = .i .i64 (((blksE L).length - k : Nat) : Int) ∧ get 23 t = .i .i64 (j : Int) ∧ Stay nowhere h g ∧ Buf g 34 4 w ((rangeU L fr to (k + j)).flatMap entC) ∧ (∀ q, isOf w q → B.val h.next ≤ B.val q)) ((blksE L).length - k) ?_ ?_
  · simp (disch := first | omega | (simp only [lnv]; omega)) only [wlk, ↓get_put', ↓reduceIte, seval, hul]
    have h0 := rangeU_none (L := L) (fr := fr) (to := to) hk1 fun i hi => range_out (blks_ok ho _ (getD_mem (by omega))) (.inl (hlo i hi))
    refine ⟨0, .l0, by omega, by omega, ?_⟩
    refine ⟨?_, ?_, ?_, ?_, ?_, ?_, s1, by rw [Nat.add_zero, h0]; exact Buf.nil _ _ _, ?_⟩
    rotate_right
    · rintro i ⟨_, _, _, _, _, e⟩; cases e
    all_goals first | trivial | rfl
  rintro I hI m t g ⟨j, w, rfl, hj, f1, f2, f8, f21, f22, f23, st, bf, own⟩
  have hfg := st.fl hf
  by_cases hjl : j < (blksE L).length - k
  case neg =>
    obtain rfl : j = (blksE L).length - k := by omega
    repeat' (first
      | refine St.h ?_
      | simp (disch := first | omega | (simp only [lnv]; omega)) only [wlk, ↓get_put', ↓reduceIte, seval, f8, f21, f22, f23]
      | (with_reducible (first | apply cd_split | apply gd_split)) <;> (intro hc; (try simp only [hcn] at hc); (try simp only [hc]); (try simp only [hcl] at hc); try omega))
    subst hQ
    rw [show k + ((blksE L).length - k) = (blksE L).length by omega, rangeU_all] at bf
    exact ⟨w, rfl, Ss.buf bf rfl entC_len (by omega), st⟩
  have hkj : k + j < (blksE L).length := by omega
  have hub : (((blksE L).map pcOf).drop k).getD j default = pcOf ((blksE L).getD (k + j) []) := by
    rw [← pcs_at hkj]; simp [List.getD, List.getElem?_drop]
  have hug := Ps.grow hu st
  have hok := blks_ok ho _ (getD_mem hkj)
  have hle := blks_each hkj
  have hru := rangeU_succ (L := L) (fr := fr) (to := to) hkj
  have hrl := rangeU_le (L := L) (fr := fr) (to := to) (k + j)
  have hrl2 := rangeU_le (L := L) (fr := fr) (to := to) (k + j + 1)
  generalize hbk : (blksE L).getD (k + j) [] = bk at *
  repeat' (first
    | refine St.h ?_
    | simp (disch := first | omega | (simp only [lnv]; omega)) only [wlk, ↓get_put', ↓reduceIte, seval, f1, f2, f21, f22, f23, hug.ix, hug.la, hub, hul, Int.toNat_natCast]
    | (with_reducible (first | apply cd_split | apply gd_split)) <;> (intro hc; (try simp only [hcn] at hc); (try simp only [hc]); (try simp only [hcl] at hc); try omega))
  refine AL.own (by simp) hfg fun g1 t1 _ o1 => ?_
  have hfg1 := t1.fl hfg
  repeat' (first
    | refine St.h ?_
    | simp (disch := first | omega | (simp only [lnv]; omega)) only [wlk, ↓get_put', ↓reduceIte, seval, f1, f2, f21, f22, f23, hug.ix, hug.la, hub, Int.toNat_natCast]
    | (with_reducible (first | apply cd_split | apply gd_split)) <;> (intro hc; (try simp only [hcn] at hc); (try simp only [hc]); (try simp only [hcl] at hc); try omega))
  refine ST.all o1 rfl rfl (by simp) (by simp) fun g2 o2 t2 => ?_
  have t02 : Stay nowhere g g2 := t1.past' t2 fun q hq => by rw [hq]; exact Nat.le_refl _
  have hfg2 := t02.fl hfg
  have bf2 := bf.grow t02
  have hpb : pcOf bk = ⟨blkB bk, firstK bk, lastK bk⟩ := rfl
  rw [hpb] at o2
  repeat' (first
    | refine St.h ?_
    | simp (disch := first | omega | (simp only [lnv]; omega)) only [wlk, ↓get_put', ↓reduceIte, seval, f1, f2, f8, f21, f22, f23, o2.row.l1]
    | (with_reducible (first | apply cd_split | apply gd_split)) <;> (intro hc; (try simp only [hcn] at hc); (try simp only [hc]); (try simp only [hcl] at hc); try omega))
  refine CL.pure isBelow_ok ?_
  cases hfk : (decide (to = []) || Op.bytesLess (firstK bk) to) with
  | false =>
    repeat' (first
      | refine St.h ?_
      | simp (disch := first | omega | (simp only [lnv]; omega)) only [wlk, ↓get_put', ↓reduceIte, seval, f1, f2, f8, f21, f22, f23]
      | (with_reducible (first | apply cd_split | apply gd_split)) <;> (intro hc; (try simp only [hcn] at hc); (try simp only [hc]); (try simp only [hcl] at hc); try omega))
    subst hQ
    have hres : rangeU L fr to (k + j) = rangeE L fr to := by
      refine rangeU_rest (d := (blksE L).length - (k + j)) (by omega) fun i h1 h2 => ?_
      rw [Bool.or_eq_false_iff, decide_eq_false_iff_not] at hfk
      refine range_out (blks_ok ho _ (getD_mem h2)) (.inr ⟨hfk.1, ?_⟩)
      have h3 := first_le' ho h1 h2
      rw [hbk] at h3
      exact le_trans' hfk.2 h3
    rw [hres] at bf2
    exact ⟨w, rfl, Ss.buf bf2 rfl entC_len (by omega), st.trans t02⟩
  | true =>
  have hbn := blkB_len (b := bk) (by omega)
  repeat' (first
    | refine St.h ?_
    | simp (disch := first | omega | (simp only [lnv]; omega)) only [wlk, ↓get_put', ↓reduceIte, seval, f1, f2, f8, f21, f22, f23, o2.row.l1]
    | (with_reducible (first | apply cd_split | apply gd_split)) <;> (intro hc; (try simp only [hcn] at hc); (try simp only [hc]); (try simp only [hcl] at hc); try omega))
  refine CL.mk (bread_okO (by omega) hfg2) ?_
  rintro _ g3 ⟨lv, rfl, hv, t3, hvo⟩
  have hfg3 := t3.fl hfg2
  rw [blkB_read hok (by omega)] at hv ⊢
  have hv : Es g3 lv bk := hv
  have bf3 := bf2.grow t3
  have s3 := (st.trans t02).trans t3
  repeat' (first
    | refine St.h ?_
    | simp (disch := first | omega | (simp only [lnv]; omega)) only [wlk, ↓get_put', ↓reduceIte, seval, f1, f2, f8, f21, f22, f23, hv.ln]
    | (with_reducible (first | apply cd_split | apply gd_split)) <;> (intro hc; (try simp only [hcn] at hc); (try simp only [hc]); (try simp only [hcl] at hc); try omega))
  refine Ok.lp (fun m t' g' => ∃ (i : Nat) (w' : V), m = bk.length - i ∧ i ≤ bk.length ∧ get 1 t' = sv fr ∧ get 2 t' = sv to ∧ get 8 t' = w' ∧ get 21 t' = u ∧ get 22 t' = .i .i64 (((blksE L).length - k : Nat) : Int) ∧ get 23 t' = .i .i64 (j : Int) ∧ get 41 t' = lv ∧ get 42 t' = .i .i64 (bk.length : Int) ∧ get 43 t' = .i .i64 (i : Int) ∧ Stay nowhere h g' ∧ Es g' lv bk ∧ Buf g' 34 4 w' ((rangeU L fr to (k + j) ++ (bk.take i).filter (inR fr to)).flatMap entC) ∧ (∀ q, isOf w' q → B.val h.next ≤ B.val q) ∧ ∀ q, isOf w' q → ¬ isOf lv q) bk.length ?_ ?_
  · simp (disch := first | omega | (simp only [lnv]; omega)) only [wlk, ↓get_put', ↓reduceIte, seval, f1, f2, f8, f21, f22, f23]
    refine ⟨0, w, by omega, by omega, ?_⟩
    refine ⟨?_, ?_, ?_, ?_, ?_, ?_, ?_, ?_, ?_, s3, hv, by simpa using bf3, own, fun q h1 h2 => by have := hvo q h2; have := (bf2.own h1).2; omega⟩
    all_goals first | trivial | rfl
  rintro I2 hI2 m2 t' g' ⟨i, w', rfl, hi, e1, e2, e8, e21, e22, e23, e41, e42, e43, st', hv', bf', own', dis'⟩
  have hfg' := st'.fl hf
  by_cases hil : i < bk.length
  case neg =>
    obtain rfl : i = bk.length := by omega
    rw [List.take_length] at bf'
    have hbf : rangeU L fr to (k + j) ++ bk.filter (inR fr to) = rangeU L fr to (k + j + 1) := by rw [hru]; rfl
    rw [hbf] at bf'
    repeat' (first
      | refine St.h ?_
      | simp (disch := first | omega | (simp only [lnv]; omega)) only [wlk, ↓get_put', ↓reduceIte, seval, e1, e2, e8, e21, e22, e23, e41, e42, e43]
      | (with_reducible (first | apply cd_split | apply gd_split)) <;> (intro hc; (try simp only [hcn] at hc); (try simp only [hc]); (try simp only [hcl] at hc); try omega))
    refine lp_next hI ((blksE L).length - k - (j + 1)) (by omega) ⟨j + 1, w', rfl, by omega, ?_, ?_, ?_, ?_, ?_, ?_, st', bf', own'⟩
    · simp (disch := first | omega | (simp only [lnv]; omega)) only [wlk, ↓get_put', ↓reduceIte, seval, e1]
    · simp (disch := first | omega | (simp only [lnv]; omega)) only [wlk, ↓get_put', ↓reduceIte, seval, e2]
    · simp (disch := first | omega | (simp only [lnv]; omega)) only [wlk, ↓get_put', ↓reduceIte, seval, e8]
    · simp (disch := first | omega | (simp only [lnv]; omega)) only [wlk, ↓get_put', ↓reduceIte, seval, e21]
    · simp (disch := first | omega | (simp only [lnv]; omega)) only [wlk, ↓get_put', ↓reduceIte, seval, e22]
    · simp (disch := first | omega | (simp only [lnv]; omega)) only [wlk, ↓get_put', ↓reduceIte, seval, e23]; rfl
  have htf := take_filter (b := bk) (q := inR fr to) hil
  have hfl : ((bk.take (i + 1)).filter (inR fr to)).length ≤ bk.length := by
    have h1 := List.length_filter_le (inR fr to) (bk.take (i + 1))
    have h2 : (bk.take (i + 1)).length ≤ bk.length := by rw [List.length_take]; omega
    omega
  repeat' (first
    | refine St.h ?_
    | simp (disch := first | omega | (simp only [lnv]; omega)) only [wlk, ↓get_put', ↓reduceIte, seval, e1, e2, e8, e21, e22, e23, e41, e42, e43, hv'.ix, hv'.la, Int.toNat_natCast]
    | (with_reducible (first | apply cd_split | apply gd_split)) <;> (intro hc; (try simp only [hcn] at hc); (try simp only [hc]); (try simp only [hcl] at hc); try omega))
  refine AL.own (by simp) hfg' fun g4 t4 _ o4 => ?_
  have hfg4 := t4.fl hfg'
  repeat' (first
    | refine St.h ?_
    | simp (disch := first | omega | (simp only [lnv]; omega)) only [wlk, ↓get_put', ↓reduceIte, seval, e1, e2, e8, e21, e22, e23, e41, e42, e43, hv'.ix, hv'.la, Int.toNat_natCast]
    | (with_reducible (first | apply cd_split | apply gd_split)) <;> (intro hc; (try simp only [hcn] at hc); (try simp only [hc]); (try simp only [hcl] at hc); try omega))
  refine ST.all o4 rfl rfl (by simp) (by simp) fun g5 o5 t5 => ?_
  have hlt5 : ∀ q, isOf w' q → q ≠ g'.next := fun q hq e => absurd (bf'.own hq).2 (by rw [e]; exact Nat.lt_irrefl _)
  have t45 : Stay nowhere g' g5 := t4.past' t5 fun q hq => by rw [hq]; exact Nat.le_refl _
  have hfg5 := t45.fl hfg'
  have bf5 := bf'.grow t45
  have st5 := st'.trans t45
  have hv5 := hv'.grow t45
  generalize hx : bk.getD i default = x at *
  obtain ⟨xk, xq, xd, xv⟩ := x
  have hin : inR fr to ⟨xk, xq, xd, xv⟩ = (!Op.bytesLess xk fr && (decide (to = []) || Op.bytesLess xk to)) := rfl
  cases hc1 : Op.bytesLess xk fr with
  | true =>
    have hq : inR fr to ⟨xk, xq, xd, xv⟩ = false := by rw [hin, hc1]; rfl
    rw [hq] at htf
    have htf : (bk.take (i + 1)).filter (inR fr to) = (bk.take i).filter (inR fr to) := by rw [htf]; simp
    repeat' (first
      | refine St.h ?_
      | simp (disch := first | omega | (simp only [lnv]; omega)) only [wlk, ↓get_put', ↓reduceIte, seval, e1, e2, e8, e21, e22, e23, e41, e42, e43, o5.row.l1, hc1]
      | (with_reducible (first | apply cd_split | apply gd_split)) <;> (intro hc; (try simp only [hcn] at hc); (try simp only [hc]); (try simp only [hcl] at hc); try omega))
    refine lp_next hI2 (bk.length - (i + 1)) (by omega) ⟨i + 1, w', rfl, by omega, ?_, ?_, ?_, ?_, ?_, ?_, ?_, ?_, ?_, st5, hv5, by rw [htf]; exact bf5, own', dis'⟩
    · simp (disch := first | omega | (simp only [lnv]; omega)) only [wlk, ↓get_put', ↓reduceIte, seval, e1]
    · simp (disch := first | omega | (simp only [lnv]; omega)) only [wlk, ↓get_put', ↓reduceIte, seval, e2]
    · simp (disch := first | omega | (simp only [lnv]; omega)) only [wlk, ↓get_put', ↓reduceIte, seval, e8]
    · simp (disch := first | omega | (simp only [lnv]; omega)) only [wlk, ↓get_put', ↓reduceIte, seval, e21]
    · simp (disch := first | omega | (simp only [lnv]; omega)) only [wlk, ↓get_put', ↓reduceIte, seval, e22]
    · simp (disch := first | omega | (simp only [lnv]; omega)) only [wlk, ↓get_put', ↓reduceIte, seval, e23]
    · simp (disch := first | omega | (simp only [lnv]; omega)) only [wlk, ↓get_put', ↓reduceIte, seval, e41]
    · simp (disch := first | omega | (simp only [lnv]; omega)) only [wlk, ↓get_put', ↓reduceIte, seval, e42]
    · simp (disch := first | omega | (simp only [lnv]; omega)) only [wlk, ↓get_put', ↓reduceIte, seval, e43]; rfl
  | false =>
  repeat' (first
    | refine St.h ?_
    | simp (disch := first | omega | (simp only [lnv]; omega)) only [wlk, ↓get_put', ↓reduceIte, seval, e1, e2, e8, e21, e22, e23, e41, e42, e43, o5.row.l1, hc1]
    | (with_reducible (first | apply cd_split | apply gd_split)) <;> (intro hc; (try simp only [hcn] at hc); (try simp only [hc]); (try simp only [hcl] at hc); try omega))
  refine CL.pure isBelow_ok ?_
  cases hc2 : (decide (to = []) || Op.bytesLess xk to) with
  | false =>
    have hq : inR fr to ⟨xk, xq, xd, xv⟩ = false := by rw [hin, hc2, Bool.and_false]
    rw [hq] at htf
    have htf : (bk.take (i + 1)).filter (inR fr to) = (bk.take i).filter (inR fr to) := by rw [htf]; simp
    repeat' (first
      | refine St.h ?_
      | simp (disch := first | omega | (simp only [lnv]; omega)) only [wlk, ↓get_put', ↓reduceIte, seval, e1, e2, e8, e21, e22, e23, e41, e42, e43]
      | (with_reducible (first | apply cd_split | apply gd_split)) <;> (intro hc; (try simp only [hcn] at hc); (try simp only [hc]); (try simp only [hcl] at hc); try omega))
    refine lp_next hI2 (bk.length - (i + 1)) (by omega) ⟨i + 1, w', rfl, by omega, ?_, ?_, ?_, ?_, ?_, ?_, ?_, ?_, ?_, st5, hv5, by rw [htf]; exact bf5, own', dis'⟩
    · simp (disch := first | omega | (simp only [lnv]; omega)) only [wlk, ↓get_put', ↓reduceIte, seval, e1]
    · simp (disch := first | omega | (simp only [lnv]; omega)) only [wlk, ↓get_put', ↓reduceIte, seval, e2]
    · simp (disch := first | omega | (simp only [lnv]; omega)) only [wlk, ↓get_put', ↓reduceIte, seval, e8]
    · simp (disch := first | omega | (simp only [lnv]; omega)) only [wlk, ↓get_put', ↓reduceIte, seval, e21]
    · simp (disch := first | omega | (simp only [lnv]; omega)) only [wlk, ↓get_put', ↓reduceIte, seval, e22]
    · simp (disch := first | omega | (simp only [lnv]; omega)) only [wlk, ↓get_put', ↓reduceIte, seval, e23]
    · simp (disch := first | omega | (simp only [lnv]; omega)) only [wlk, ↓get_put', ↓reduceIte, seval, e41]
    · simp (disch := first | omega | (simp only [lnv]; omega)) only [wlk, ↓get_put', ↓reduceIte, seval, e42]
    · simp (disch := first | omega | (simp only [lnv]; omega)) only [wlk, ↓get_put', ↓reduceIte, seval, e43]; rfl
  | true =>
  have hq : inR fr to ⟨xk, xq, xd, xv⟩ = true := by rw [hin, hc2, hc1]; rfl
  rw [hq, if_pos rfl] at htf
  have hec : ([sv xk, .i .i64 xq, .b xd, sv xv] : List V) = entC ⟨xk, xq, xd, xv⟩ := rfl
  repeat' (first
    | refine St.h ?_
    | simp (disch := first | omega | (simp only [lnv]; omega)) only [wlk, ↓get_put', ↓reduceIte, seval, e1, e2, e8, e21, e22, e23, e41, e42, e43, o5.row.ln]
    | (with_reducible (first | apply cd_split | apply gd_split)) <;> (intro hc; (try simp only [hcn] at hc); (try simp only [hc]); (try simp only [hcl] at hc); try omega))
  refine AL.own (by simp) hfg5 fun g6 t6 _ o6 => ?_
  have hfg6 := t6.fl hfg5
  have bf6 := bf5.grow t6
  have hfm := fm_len entC_len (rangeU L fr to (k + j) ++ (bk.take i).filter (inR fr to))
  have hfl2 : ((bk.take i).filter (inR fr to)).length ≤ bk.length := by
    have h1 := List.length_filter_le (inR fr to) (bk.take i)
    have h2 : (bk.take i).length ≤ bk.length := by rw [List.length_take]; omega
    omega
  rw [List.length_append] at hfm
  repeat' (first
    | refine St.h ?_
    | simp (disch := first | omega | (simp only [lnv]; omega)) only [wlk, ↓get_put', ↓reduceIte, seval, e1, e2, e8, e21, e22, e23, e41, e42, e43]
    | (with_reducible (first | apply cd_split | apply gd_split)) <;> (intro hc; (try simp only [hcn] at hc); (try simp only [hc]); (try simp only [hcl] at hc); try omega))
  refine AP.buf (vs := entC ⟨xk, xq, xd, xv⟩) (cnt := 1) bf6 (new_row o6.row rfl (Nat.le_refl _) (by omega) (by show 4 ≤ 4; omega)) hfg6 (by omega) rfl rfl (by rw [hfm, entC_len]; omega) fun w2 g7 b7 t7 ho7 tp7 => ?_
  have st7 : Stay nowhere h g7 := (st5.trans t6).past' t7 fun q hq => own' q hq
  have hv7 : Es g7 lv bk := Ss.stay (hv5.grow t6) t7 fun q hq hq2 => dis' q hq2 hq
  repeat' (first
    | refine St.h ?_
    | simp (disch := first | omega | (simp only [lnv]; omega)) only [wlk, ↓get_put', ↓reduceIte, seval, e1, e2, e8, e21, e22, e23, e41, e42, e43]
    | (with_reducible (first | apply cd_split | apply gd_split)) <;> (intro hc; (try simp only [hcn] at hc); (try simp only [hc]); (try simp only [hcl] at hc); try omega))
  refine lp_next hI2 (bk.length - (i + 1)) (by omega) ⟨i + 1, w2, rfl, by omega, ?_, ?_, ?_, ?_, ?_, ?_, ?_, ?_, ?_, st7, hv7, by rw [htf, ← List.append_assoc, List.flatMap_append]; simpa using b7, fun q hq => ?_, fun q hq hq2 => ?_⟩
  · simp (disch := first | omega | (simp only [lnv]; omega)) only [wlk, ↓get_put', ↓reduceIte, seval, e1]
  · simp (disch := first | omega | (simp only [lnv]; omega)) only [wlk, ↓get_put', ↓reduceIte, seval, e2]
  · simp (disch := first | omega | (simp only [lnv]; omega)) only [wlk, ↓get_put', ↓reduceIte, seval]
  · simp (disch := first | omega | (simp only [lnv]; omega)) only [wlk, ↓get_put', ↓reduceIte, seval, e21]
  · simp (disch := first | omega | (simp only [lnv]; omega)) only [wlk, ↓get_put', ↓reduceIte, seval, e22]
  · simp (disch := first | omega | (simp only [lnv]; omega)) only [wlk, ↓get_put', ↓reduceIte, seval, e23]
  · simp (disch := first | omega | (simp only [lnv]; omega)) only [wlk, ↓get_put', ↓reduceIte, seval, e41]
  · simp (disch := first | omega | (simp only [lnv]; omega)) only [wlk, ↓get_put', ↓reduceIte, seval, e42]
  · simp (disch := first | omega | (simp only [lnv]; omega)) only [wlk, ↓get_put', ↓reduceIte, seval, e43]; rfl
  · rcases ho7 q hq with h1 | h1
    · exact own' q h1
    · have := st5.next; have := t6.next; omega
  · rcases ho7 q hq with h1 | h1
    · exact dis' q h1 hq2
    · obtain ⟨_, _, _, _, _, e⟩ := hq2
      rcases hv5 with ⟨e2, _⟩ | ⟨id, a, b, c, d, e2, _, e3, _⟩
      · rw [e2] at e; cases e
      · rw [e2] at e; cases e
        have := t6.next; omega
theorem tall_ok {h : H} {p : B} {L : List Ent} (T : Tb h p L) (ho : okB L) (hl : L.length ≤ 100) (hf : B.val h.floor ≤ B.val h.next) : FnOk Try.prog 15 [tp p] h fun y h' =>
    ∃ v, y = .tu [v, .i .i64 0] ∧ Es h' v L ∧ Stay nowhere h h' := by
  refine fn_go c15 (by intro hb; cases hb) (by simp) (by simp) fun Q hQ => ?_
  simp only [slotsF, Nat.reduceAdd]
  repeat' (first
    | refine St.h ?_
    | simp (disch := first | omega | (simp only [lnv]; omega)) only [wlk, ↓get_put', ↓reduceIte, seval]
    | (with_reducible (first | apply cd_split | apply gd_split)) <;> (intro hc; (try simp only [hcn] at hc); (try simp only [hc]); (try simp only [hcl] at hc); try omega))
  refine CL.mk (trange_ok (fr := []) (to := []) T ho hl hf) ?_
  rintro _ h1 ⟨v, rfl, hv, s1⟩
  rw [range_all] at hv
  repeat' (first
    | refine St.h ?_
    | simp (disch := first | omega | (simp only [lnv]; omega)) only [wlk, ↓get_put', ↓reduceIte, seval]
    | (with_reducible (first | apply cd_split | apply gd_split)) <;> (intro hc; (try simp only [hcn] at hc); (try simp only [hc]); (try simp only [hcl] at hc); try omega))
  subst hQ
  exact ⟨v, rfl, hv, s1⟩
end Go.Proofs.Ytiingkpdodbldaa

set_option maxRecDepth 100000
set_option maxHeartbeats 8000000
set_option linter.all false
namespace Go.Proofs.Ytiingkpdodbldaa
open Go Go.Ev
theorem blkGo_end {c : List Ent} : blkGo c [] = c :: blksE [] := rfl
theorem take_snoc {L : List Ent} {k : Nat} (hk : k < L.length) : L.take (k + 1) = L.take k ++ [L.getD k default] := by
  rw [List.take_succ]; congr 1; simp [List.getD, hk]
theorem fill_ok {h : H} {v : V} {L : List Ent} (hL : Es h v L) (hw : SwN 4 v) (hne : L ≠ []) (hl : L.length ≤ 100) (hf : B.val h.floor ≤ B.val h.next) : FnOk Try.prog 51 [v] h fun y h' =>
    ∃ k : Nat, 1 ≤ k ∧ k ≤ L.length ∧ y = .tu [sv (blkB (L.take k)), .i .i64 (k : Int)] ∧ blksE L = L.take k :: blksE (L.drop k) ∧ Stay nowhere h h' := by
  refine fn_go c51 (by intro hb; cases hb) (by simp) (by simp) fun Q hQ => ?_
  simp only [slotsF, Nat.reduceAdd]
  repeat' (first
    | refine St.h ?_
    | simp (disch := first | omega | (simp only [lnv]; omega)) only [wlk, ↓get_put', ↓reduceIte, seval]
    | (with_reducible (first | apply cd_split | apply gd_split)) <;> (intro hc; (try simp only [hcn] at hc); (try simp only [hc]); (try simp only [hcl] at hc); try omega))
  have hpos : 1 ≤ L.length := by cases L with | nil => exact absurd rfl hne | cons => simp
  refine Ok.lp (fun m t g => ∃ k : Nat, m = L.length - k ∧ k ≤ L.length ∧ get 0 t = v ∧ get 4 t = sv (if k = 0 then [] else blkB (L.take k)) ∧ get 5 t = .i .i64 (k : Int) ∧ Stay nowhere h g ∧ (1 ≤ k → blksE L = blkGo (L.take k) (L.drop k))) L.length ?_ ?_
  · simp (disch := first | omega | (simp only [lnv]; omega)) only [wlk, ↓get_put', ↓reduceIte, seval]
    exact ⟨0, by omega, by omega, trivial, by rw [if_pos rfl], rfl, Stay.refl _ _, fun h => by omega⟩
  rintro I hI m t g ⟨k, rfl, hk, f0, f4, f5, st, hgo⟩
  have hfg := st.fl hf
  by_cases hkl : k < L.length
  case neg =>
    obtain rfl : k = L.length := by omega
    rw [if_neg (by omega)] at f4
    have hgo := hgo hpos
    rw [List.drop_length, blkGo_end] at hgo
    repeat' (first
      | refine St.h ?_
      | simp (disch := first | omega | (simp only [lnv]; omega)) only [wlk, ↓get_put', ↓reduceIte, seval, f0, f4, f5, hL.ln]
      | (with_reducible (first | apply cd_split | apply gd_split)) <;> (intro hc; (try simp only [hcn] at hc); (try simp only [hc]); (try simp only [hcl] at hc); try omega))
    subst hQ
    exact ⟨L.length, hpos, by omega, rfl, by rw [List.drop_length]; exact hgo, st⟩
  obtain ⟨u, u1, u2, u3⟩ := Ss.hi (P := Try.prog) (kd := .i64) hL entC_len hw (k := k + 1) (by omega)
  have e1 : (k : Int) + 1 = ((k + 1 : Nat) : Int) := by omega
  have htl : (L.take (k + 1)).length = k + 1 := by rw [List.length_take]; omega
  repeat' (first
    | refine St.h ?_
    | simp (disch := first | omega | (simp only [lnv]; omega)) only [wlk, ↓get_put', ↓reduceIte, seval, f0, f4, f5, hL.ln, e1, u3]
    | (with_reducible (first | apply cd_split | apply gd_split)) <;> (intro hc; (try simp only [hcn] at hc); (try simp only [hc]); (try simp only [hcl] at hc); try omega))
  refine CL.stay (bmake_ok (u1.grow st) (by omega) hfg) fun g1 t1 => ?_
  have hfg1 := t1.fl hfg
  have hbb : (blkE (L.take (k + 1))).1 = blkB (L.take (k + 1)) := rfl
  rw [hbb]
  by_cases hk0 : k = 0
  case pos =>
    subst hk0
    have hz : ((0 : Nat) : Int) = 0 := rfl
    repeat' (first
      | refine St.h ?_
      | simp (disch := first | omega | (simp only [lnv]; omega)) only [wlk, ↓get_put', ↓reduceIte, seval, f0, f4, f5, hz]
      | (with_reducible (first | apply cd_split | apply gd_split)) <;> (intro hc; (try simp only [hcn] at hc); (try simp only [hc]); (try simp only [hcl] at hc); try omega))
    refine lp_next hI (L.length - (0 + 1)) (by omega) ⟨0 + 1, rfl, by omega, ?_, ?_, ?_, st.trans t1, fun _ => ?_⟩
    · simp (disch := first | omega | (simp only [lnv]; omega)) only [wlk, ↓get_put', ↓reduceIte, seval, f0]
    · simp (disch := first | omega | (simp only [lnv]; omega)) only [wlk, ↓get_put', ↓reduceIte, seval]
    · simp (disch := first | omega | (simp only [lnv]; omega)) only [wlk, ↓get_put', ↓reduceIte, seval]
    · cases L with
      | nil => exact absurd rfl hne
      | cons e r => rfl
  have hgo := hgo (by omega)
  have hkp : (0 < (k : Int)) = True := eq_true (by omega)
  have hdr := drop_ent hkl
  rw [hdr] at hgo
  have hts := take_snoc hkl
  by_cases hbig : 200 < (blkB (L.take (k + 1))).length
  case pos =>
    have hbg : (200 < ((blkB (L.take (k + 1))).length : Int)) = True := eq_true (by omega)
    rw [blkGo_big (by rw [← hts]; exact hbig)] at hgo
    rw [if_neg hk0] at f4
    repeat' (first
      | refine St.h ?_
      | simp (disch := first | omega | (simp only [lnv]; omega)) only [wlk, ↓get_put', ↓reduceIte, seval, f0, f4, f5, hkp, hbg]
      | (with_reducible (first | apply cd_split | apply gd_split)) <;> (intro hc; (try simp only [hcn] at hc); (try simp only [hc]); (try simp only [hcl] at hc); try omega))
    subst hQ
    exact ⟨k, by omega, by omega, rfl, by rw [hdr]; exact hgo, st.trans t1⟩
  have hbg : (200 < ((blkB (L.take (k + 1))).length : Int)) = False := eq_false (by omega)
  rw [blkGo_fit (by rw [← hts]; exact Nat.not_lt.1 hbig), ← hts] at hgo
  repeat' (first
    | refine St.h ?_
    | simp (disch := first | omega | (simp only [lnv]; omega)) only [wlk, ↓get_put', ↓reduceIte, seval, f0, f4, f5, hkp, hbg]
    | (with_reducible (first | apply cd_split | apply gd_split)) <;> (intro hc; (try simp only [hcn] at hc); (try simp only [hc]); (try simp only [hcl] at hc); try omega))
  refine lp_next hI (L.length - (k + 1)) (by omega) ⟨k + 1, rfl, by omega, ?_, ?_, ?_, st.trans t1, fun _ => hgo⟩
  · simp (disch := first | omega | (simp only [lnv]; omega)) only [wlk, ↓get_put', ↓reduceIte, seval, f0]
  · simp (disch := first | omega | (simp only [lnv]; omega)) only [wlk, ↓get_put', ↓reduceIte, seval]
  · simp (disch := first | omega | (simp only [lnv]; omega)) only [wlk, ↓get_put', ↓reduceIte, seval]; rfl
theorem pack_ok {h : H} {v : V} {L : List Ent} (hL : Es h v L) (hw : SwN 4 v) (hl : L.length ≤ 100) (hf : B.val h.floor ≤ B.val h.next) : FnOk Try.prog 23 [v] h fun y h' =>
    Ps h' y ((blksE L).map pcOf) ∧ SwN 3 y ∧ Stay nowhere h h' := by
  refine fn_go c23 (by intro hb; cases hb) (by simp) (by simp) fun Q hQ => ?_
  simp only [slotsF, Nat.reduceAdd]
  repeat' (first
    | refine St.h ?_
    | simp (disch := first | omega | (simp only [lnv]; omega)) only [wlk, ↓get_put', ↓reduceIte, seval]
    | (with_reducible (first | apply cd_split | apply gd_split)) <;> (intro hc; (try simp only [hcn] at hc); (try simp only [hc]); (try simp only [hcl] at hc); try omega))
  refine Ok.lp (fun m t g => ∃ (R : List Ent) (out : List (List Ent)) (r w : V), m = R.length ∧ R.length ≤ L.length ∧ out.length + R.length ≤ L.length ∧ blksE L = out ++ blksE R ∧ get 0 t = r ∧ get 3 t = w ∧ Stay nowhere h g ∧ Es h r R ∧ SwN 4 r ∧ Buf g 60 3 w ((out.map pcOf).flatMap pcC) ∧ (∀ i, isOf w i → B.val h.next ≤ B.val i)) L.length ?_ ?_
  · simp (disch := first | omega | (simp only [lnv]; omega)) only [wlk, ↓get_put', ↓reduceIte, seval]
    refine ⟨L, [], v, .l0, rfl, by omega, by simp, rfl, ?_⟩
    refine ⟨?_, ?_, Stay.refl _ _, hL, hw, Buf.nil _ _ _, ?_⟩
    rotate_right
    · rintro i ⟨_, _, _, _, _, e⟩; cases e
    all_goals first | trivial | rfl
  rintro I hI m t g ⟨R, out, r, w, rfl, hRl, hol, hbs, f0, f3, st, hR, hwr, bf, own⟩
  have hfg := st.fl hf
  by_cases hR0 : R.length = 0
  case pos =>
    have hRe : R = [] := List.eq_nil_of_length_eq_zero hR0
    rw [hRe, show blksE ([] : List Ent) = [] from rfl, List.append_nil] at hbs
    rw [← hbs] at bf
    repeat' (first
      | refine St.h ?_
      | simp (disch := first | omega | (simp only [lnv]; omega)) only [wlk, ↓get_put', ↓reduceIte, seval, f0, f3, hR.ln]
      | (with_reducible (first | apply cd_split | apply gd_split)) <;> (intro hc; (try simp only [hcn] at hc); (try simp only [hc]); (try simp only [hcl] at hc); try omega))
    subst hQ
    exact ⟨Ss.buf bf rfl pcC_len (by omega), swn_buf bf, st⟩
  have hRn : R ≠ [] := fun e => hR0 (by rw [e]; rfl)
  have hRp : 1 ≤ R.length := by omega
  repeat' (first
    | refine St.h ?_
    | simp (disch := first | omega | (simp only [lnv]; omega)) only [wlk, ↓get_put', ↓reduceIte, seval, f0, f3, hR.ln]
    | (with_reducible (first | apply cd_split | apply gd_split)) <;> (intro hc; (try simp only [hcn] at hc); (try simp only [hc]); (try simp only [hcl] at hc); try omega))
  refine CL.mk (fill_ok (hR.grow st) hwr hRn (by omega) hfg) ?_
  rintro _ g1 ⟨k, k1, k2, rfl, hbk, t1⟩
  have hfg1 := t1.fl hfg
  have st1 := st.trans t1
  have bf1 := bf.grow t1
  have hR1 := hR.grow st1
  obtain ⟨u, u1, u2, u3⟩ := Ss.lo (P := Try.prog) (kd := .i64) hR entC_len hwr (k := k) k2
  have e1 : ((k : Int) - 1).toNat = k - 1 := by omega
  have hfi : firstK (R.take k) = (R.getD 0 default).key := by
    unfold firstK; simp [List.getD, List.getElem?_take, show 0 < k by omega]
  have htl : (R.take k).length = k := by rw [List.length_take]; omega
  have hla : lastK (R.take k) = (R.getD (k - 1) default).key := by
    unfold lastK; rw [htl]; simp [List.getD, List.getElem?_take, show k - 1 < k by omega]
  have hpc : pcC (pcOf (R.take k)) = [sv (blkB (R.take k)), sv (R.getD 0 default).key, sv (R.getD (k - 1) default).key] := by
    unfold pcOf pcC; rw [hfi, hla]
  repeat' (first
    | refine St.h ?_
    | simp (disch := first | omega | (simp only [lnv]; omega)) only [wlk, ↓get_put', ↓reduceIte, seval, f0, f3, hR.ix, es_l00 hR1 (by omega), hR1.l0, e1, Int.toNat_natCast]
    | (with_reducible (first | apply cd_split | apply gd_split)) <;> (intro hc; (try simp only [hcn] at hc); (try simp only [hc]); (try simp only [hcl] at hc); try omega))
  refine AL.own (by simp) hfg1 fun g4 t4 _ o4 => ?_
  have hfg4 := t4.fl hfg1
  have bf4 := bf1.grow t4
  have hfm := fm_len pcC_len (out.map pcOf)
  rw [List.length_map] at hfm
  repeat' (first
    | refine St.h ?_
    | simp (disch := first | omega | (simp only [lnv]; omega)) only [wlk, ↓get_put', ↓reduceIte, seval, f0, f3]
    | (with_reducible (first | apply cd_split | apply gd_split)) <;> (intro hc; (try simp only [hcn] at hc); (try simp only [hc]); (try simp only [hcl] at hc); try omega))
  refine AP.buf (vs := pcC (pcOf (R.take k))) (cnt := 1) bf4 (new_row (by rw [hpc]; exact o4.row) rfl (Nat.le_refl _) (by omega) (by show 3 ≤ 3; omega)) hfg4 (by omega) rfl rfl (by rw [hfm, pcC_len]; omega) fun w' g5 b5 t5 ho tp => ?_
  repeat' (first
    | refine St.h ?_
    | simp (disch := first | omega | (simp only [lnv]; omega)) only [wlk, ↓get_put', ↓reduceIte, seval, f0, f3, u3]
    | (with_reducible (first | apply cd_split | apply gd_split)) <;> (intro hc; (try simp only [hcn] at hc); (try simp only [hc]); (try simp only [hcl] at hc); try omega))
  have s5 : Stay nowhere h g5 := (st1.trans t4).past' t5 fun q hq => own q hq
  refine lp_next hI (R.drop k).length (by rw [List.length_drop]; omega) ⟨R.drop k, out ++ [R.take k], u, w', rfl, by rw [List.length_drop]; omega, by rw [List.length_append, List.length_drop]; simp; omega, by rw [hbs, hbk]; simp, ?_, ?_, s5, u1, u2, by rw [List.map_append, List.flatMap_append]; simpa using b5, fun q hq => ?_⟩
  · simp (disch := first | omega | (simp only [lnv]; omega)) only [wlk, ↓get_put', ↓reduceIte, seval]
  · simp (disch := first | omega | (simp only [lnv]; omega)) only [wlk, ↓get_put', ↓reduceIte, seval]
  · rcases ho q hq with h1 | h1
    · exact own q h1
    · have := st1.next; have := t4.next; omega
end Go.Proofs.Ytiingkpdodbldaa

set_option maxRecDepth 100000
set_option maxHeartbeats 8000000
set_option linter.all false
namespace Go.Proofs.Ytiingkpdodbldaa
open Go Go.Ev
theorem keysOf_ok {h : H} {v : V} {L : List Ent} (hL : Es h v L) (hl : L.length ≤ 100) (hf : B.val h.floor ≤ B.val h.next) : FnOk Try.prog 29 [v] h fun y h' => Tl h' y (keysE L) ∧ Stay nowhere h h' := by
  refine fn_go c29 (by intro hb; cases hb) (by simp) (by simp) fun Q hQ => ?_
  simp only [slotsF, Nat.reduceAdd]
  repeat' (first
    | refine St.h ?_
    | simp (disch := first | omega | (simp only [lnv]; omega)) only [wlk, ↓get_put', ↓reduceIte, seval, hL.ln]
    | (with_reducible (first | apply cd_split | apply gd_split)) <;> (intro hc; (try simp only [hcn] at hc); (try simp only [hc]); (try simp only [hcl] at hc); try omega))
  refine Ok.lp (fun m t g => ∃ (j : Nat) (w : V), m = L.length - j ∧ j ≤ L.length ∧ get 0 t = v ∧ get 3 t = w ∧ get 6 t = v ∧ get 7 t = .i .i64 (L.length : Int) ∧ get 8 t = .i .i64 (j : Int) ∧ Stay nowhere h g ∧ Vb g (B.val h.next) 9 w ((keysU L j).map sv)) L.length ?_ ?_
  · simp (disch := first | omega | (simp only [lnv]; omega)) only [wlk, ↓get_put', ↓reduceIte, seval]
    refine ⟨0, .l0, by omega, by omega, ?_⟩
    refine ⟨?_, ?_, ?_, ?_, ?_, Stay.refl _ _, Vb.nil _ _ _⟩
    all_goals first | trivial | rfl
  rintro I hI m t g ⟨j, w, rfl, hj, f0, f3, f6, f7, f8, st, vb⟩
  have hfg := st.fl hf
  have hLg := hL.grow st
  have hkl := keysU_len L j
  by_cases hjl : j < L.length
  case neg =>
    obtain rfl : j = L.length := by omega
    repeat' (first
      | refine St.h ?_
      | simp (disch := first | omega | (simp only [lnv]; omega)) only [wlk, ↓get_put', ↓reduceIte, seval, f0, f3, f6, f7, f8]
      | (with_reducible (first | apply cd_split | apply gd_split)) <;> (intro hc; (try simp only [hcn] at hc); (try simp only [hc]); (try simp only [hcl] at hc); try omega))
    subst hQ
    exact ⟨vb.lst, st⟩
  repeat' (first
    | refine St.h ?_
    | simp (disch := first | omega | (simp only [lnv]; omega)) only [wlk, ↓get_put', ↓reduceIte, seval, f0, f3, f6, f7, f8, hL.ix, hLg.la, Int.toNat_natCast]
    | (with_reducible (first | apply cd_split | apply gd_split)) <;> (intro hc; (try simp only [hcn] at hc); (try simp only [hc]); (try simp only [hcl] at hc); try omega))
  refine AL.own (by simp) hfg fun g1 t1 m1 o1 => ?_
  have hfg1 := t1.fl hfg
  repeat' (first
    | refine St.h ?_
    | simp (disch := first | omega | (simp only [lnv]; omega)) only [wlk, ↓get_put', ↓reduceIte, seval, f0, f3, f6, f7, f8, hL.ix, hLg.la, Int.toNat_natCast]
    | (with_reducible (first | apply cd_split | apply gd_split)) <;> (intro hc; (try simp only [hcn] at hc); (try simp only [hc]); (try simp only [hcl] at hc); try omega))
  refine ST.all o1 rfl rfl (by simp) (by simp) fun g2 o2 t2 => ?_
  have t12 : Stay nowhere g g2 := t1.past' t2 fun q hq => by rw [hq]; exact Nat.le_refl _
  have hfg2 := t12.fl hfg
  have hL2 := hLg.grow t12
  have st2 := st.trans t12
  have vb2 := vb.stay t12 fun _ _ h => h
  have hje : ((j : Int) - 1).toNat = j - 1 := by omega
  have hks : keysU L (j + 1) = keysU L j ++ if j = 0 ∨ (L.getD (j - 1) default).key ≠ (L.getD j default).key then [(L.getD j default).key] else [] := rfl
  by_cases hnew : j = 0 ∨ (L.getD (j - 1) default).key ≠ (L.getD j default).key
  case neg =>
    rw [if_neg hnew, List.append_nil] at hks
    have hnew : ¬ j = 0 ∧ (L.getD (j - 1) default).key = (L.getD j default).key := ⟨fun h => hnew (.inl h), Classical.byContradiction fun h => hnew (.inr h)⟩
    have hn0 : ((j : Int) = 0) = False := eq_false (by omega)
    repeat' (first
      | refine St.h ?_
      | simp (disch := first | omega | (simp only [lnv]; omega)) only [wlk, ↓get_put', ↓reduceIte, seval, f0, f3, f6, f7, f8, hL.ix, hL2.l0, o2.row.l1, hn0, hje, hnew.2, Int.toNat_natCast]
      | (with_reducible (first | apply cd_split | apply gd_split)) <;> (intro hc; (try simp only [hcn] at hc); (try simp only [hc]); (try simp only [hcl] at hc); try omega))
    refine lp_next hI (L.length - (j + 1)) (by omega) ⟨j + 1, w, rfl, by omega, by simp (disch := first | omega | (simp only [lnv]; omega)) only [wlk, ↓get_put', ↓reduceIte, seval, f0], by simp (disch := first | omega | (simp only [lnv]; omega)) only [wlk, ↓get_put', ↓reduceIte, seval, f3], by simp (disch := first | omega | (simp only [lnv]; omega)) only [wlk, ↓get_put', ↓reduceIte, seval, f6], by simp (disch := first | omega | (simp only [lnv]; omega)) only [wlk, ↓get_put', ↓reduceIte, seval, f7], by simp (disch := first | omega | (simp only [lnv]; omega)) only [wlk, ↓get_put', ↓reduceIte, seval, f8]; rfl, st2, by rw [hks]; exact vb2⟩
  case pos =>
    rw [if_pos hnew] at hks
    by_cases hj0 : j = 0
    case pos =>
      have hn0 : ((j : Int) = 0) = True := eq_true (by omega)
      repeat' (first
        | refine St.h ?_
        | simp (disch := first | omega | (simp only [lnv]; omega)) only [wlk, ↓get_put', ↓reduceIte, seval, f0, f3, f6, f7, f8, hL.ix, hL2.l0, o2.row.l1, hn0, hje, Int.toNat_natCast]
        | (with_reducible (first | apply cd_split | apply gd_split)) <;> (intro hc; (try simp only [hcn] at hc); (try simp only [hc]); (try simp only [hcl] at hc); try omega))
      refine AL.push vb2 (fun u => by simp (disch := first | omega | (simp only [lnv]; omega)) only [wlk, ↓get_put', ↓reduceIte, seval, f3]) rfl rfl hfg2 st2.next (by rw [List.length_map]; omega) fun v' g3 u3 vb' s3 hi3 tp => ?_
      repeat' (first
        | refine St.h ?_
        | simp (disch := first | omega | (simp only [lnv]; omega)) only [wlk, ↓get_put', ↓reduceIte, seval, f0, f3, f6, f7, f8]
        | (with_reducible (first | apply cd_split | apply gd_split)) <;> (intro hc; (try simp only [hcn] at hc); (try simp only [hc]); (try simp only [hcl] at hc); try omega))
      refine lp_next hI (L.length - (j + 1)) (by omega) ⟨j + 1, v', rfl, by omega, by simp (disch := first | omega | (simp only [lnv]; omega)) only [wlk, ↓get_put', ↓reduceIte, seval, f0], by simp (disch := first | omega | (simp only [lnv]; omega)) only [wlk, ↓get_put', ↓reduceIte, seval], by simp (disch := first | omega | (simp only [lnv]; omega)) only [wlk, ↓get_put', ↓reduceIte, seval, f6], by simp (disch := first | omega | (simp only [lnv]; omega)) only [wlk, ↓get_put', ↓reduceIte, seval, f7], by simp (disch := first | omega | (simp only [lnv]; omega)) only [wlk, ↓get_put', ↓reduceIte, seval, f8]; rfl, st2.past' s3 fun q hq => vb2.own q hq, by rw [hks, List.map_append]; exact vb'⟩
    case neg =>
      have hn0 : ((j : Int) = 0) = False := eq_false (by omega)
      have hd : decide ((L.getD (j - 1) default).key = (L.getD j default).key) = false := decide_eq_false (hnew.resolve_left hj0)
      repeat' (first
        | refine St.h ?_
        | simp (disch := first | omega | (simp only [lnv]; omega)) only [wlk, ↓get_put', ↓reduceIte, seval, f0, f3, f6, f7, f8, hL.ix, hL2.l0, o2.row.l1, hn0, hje, hd, Int.toNat_natCast]
        | (with_reducible (first | apply cd_split | apply gd_split)) <;> (intro hc; (try simp only [hcn] at hc); (try simp only [hc]); (try simp only [hcl] at hc); try omega))
      refine AL.push vb2 (fun u => by simp (disch := first | omega | (simp only [lnv]; omega)) only [wlk, ↓get_put', ↓reduceIte, seval, f3]) rfl rfl hfg2 st2.next (by rw [List.length_map]; omega) fun v' g3 u3 vb' s3 hi3 tp => ?_
      repeat' (first
        | refine St.h ?_
        | simp (disch := first | omega | (simp only [lnv]; omega)) only [wlk, ↓get_put', ↓reduceIte, seval, f0, f3, f6, f7, f8]
        | (with_reducible (first | apply cd_split | apply gd_split)) <;> (intro hc; (try simp only [hcn] at hc); (try simp only [hc]); (try simp only [hcl] at hc); try omega))
      refine lp_next hI (L.length - (j + 1)) (by omega) ⟨j + 1, v', rfl, by omega, by simp (disch := first | omega | (simp only [lnv]; omega)) only [wlk, ↓get_put', ↓reduceIte, seval, f0], by simp (disch := first | omega | (simp only [lnv]; omega)) only [wlk, ↓get_put', ↓reduceIte, seval], by simp (disch := first | omega | (simp only [lnv]; omega)) only [wlk, ↓get_put', ↓reduceIte, seval, f6], by simp (disch := first | omega | (simp only [lnv]; omega)) only [wlk, ↓get_put', ↓reduceIte, seval, f7], by simp (disch := first | omega | (simp only [lnv]; omega)) only [wlk, ↓get_put', ↓reduceIte, seval, f8]; rfl, st2.past' s3 fun q hq => vb2.own q hq, by rw [hks, List.map_append]; exact vb'⟩
theorem indexOf_ok {h : H} {v : V} {L : List Ent} (hP : Ps h v ((blksE L).map pcOf)) (ho : okB L) (hl : L.length ≤ 100) (hf : B.val h.floor ≤ B.val h.next) : FnOk Try.prog 27 [.i .i64 (L.length : Int), v] h fun y h' => y = sv (idxB L) ∧ Stay nowhere h h' := by
  refine fn_go c27 (by intro hb; cases hb) (by simp) (by simp) fun Q hQ => ?_
  simp only [slotsF, Nat.reduceAdd]
  have hm : ((blksE L).map pcOf).length = (blksE L).length := List.length_map _
  have hbl := blksE_len L
  repeat' (first
    | refine St.h ?_
    | simp (disch := first | omega | (simp only [lnv]; omega)) only [wlk, ↓get_put', ↓reduceIte, seval]
    | (with_reducible (first | apply cd_split | apply gd_split)) <;> (intro hc; (try simp only [hcn] at hc); (try simp only [hc]); (try simp only [hcl] at hc); try omega))
  refine AL.ownE (by simp) hf fun h1 s1 n1 o1 => ?_
  have hf1 := s1.fl hf
  have sb : Sb h1 (B.val h.next) 58 5 h.next (fun i => i = h.next) [] :=
    ⟨⟨.p0, .l0, o1, .inl rfl, Buf.nil _ _ _, fun i hi => absurd hi (by rintro ⟨_, _, _, _, _, e⟩; cases e), by rintro ⟨_, _, _, _, _, e⟩; cases e⟩, rfl, fun i hi => by rw [hi]; exact ⟨Nat.le_refl _, by omega⟩⟩
  have n1' := numB_len (n := L.length) (by omega)
  have n2' := numB_len (n := (blksE L).length) (by omega)
  repeat' (first
    | refine St.h ?_
    | simp (disch := first | omega | (simp only [lnv]; omega)) only [wlk, ↓get_put', ↓reduceIte, seval]
    | (with_reducible (first | apply cd_split | apply gd_split)) <;> (intro hc; (try simp only [hcn] at hc); (try simp only [hc]); (try simp only [hcl] at hc); try omega))
  refine CL.stay (num_ok (by omega) hf1) fun h2 s2 => ?_
  rw [Int.toNat_natCast]
  have hf2 := s2.fl hf1
  have sb2 := sb.stay s2 fun _ _ h => h
  repeat' (first
    | refine St.h ?_
    | simp (disch := first | omega | (simp only [lnv]; omega)) only [wlk, ↓get_put', ↓reduceIte, seval]
    | (with_reducible (first | apply cd_split | apply gd_split)) <;> (intro hc; (try simp only [hcn] at hc); (try simp only [hc]); (try simp only [hcl] at hc); try omega))
  refine CL.mk (writeString_ok sb2 (by simp; omega) hf2) ?_
  rintro _ h3 ⟨U3, sb3, s3, hU3⟩
  have s03 := (s1.trans s2).past' s3 fun q hq => (sb2.lo q hq).1
  have hf3 := s03.fl hf
  repeat' (first
    | refine St.h ?_
    | simp (disch := first | omega | (simp only [lnv]; omega)) only [wlk, ↓get_put', ↓reduceIte, seval, hP.ln, hm]
    | (with_reducible (first | apply cd_split | apply gd_split)) <;> (intro hc; (try simp only [hcn] at hc); (try simp only [hc]); (try simp only [hcl] at hc); try omega))
  refine CL.stay (num_ok (by omega) hf3) fun h4 s4 => ?_
  rw [Int.toNat_natCast]
  have hf4 := s4.fl hf3
  have sb4 := sb3.stay s4 fun _ _ h => h
  repeat' (first
    | refine St.h ?_
    | simp (disch := first | omega | (simp only [lnv]; omega)) only [wlk, ↓get_put', ↓reduceIte, seval]
    | (with_reducible (first | apply cd_split | apply gd_split)) <;> (intro hc; (try simp only [hcn] at hc); (try simp only [hc]); (try simp only [hcl] at hc); try omega))
  refine CL.mk (writeString_ok sb4 (by simp; omega) hf4) ?_
  rintro _ h5 ⟨U5, sb5, s5, hU5⟩
  have s05 := (s03.trans s4).past' s5 fun q hq => (sb4.lo q hq).1
  have hf5 := s05.fl hf
  repeat' (first
    | refine St.h ?_
    | simp (disch := first | omega | (simp only [lnv]; omega)) only [wlk, ↓get_put', ↓reduceIte, seval, hP.ln, hm]
    | (with_reducible (first | apply cd_split | apply gd_split)) <;> (intro hc; (try simp only [hcn] at hc); (try simp only [hc]); (try simp only [hcl] at hc); try omega))
  refine Ok.lp (fun m t g => ∃ (j : Nat) (U : B → Prop), m = (blksE L).length - j ∧ j ≤ (blksE L).length ∧ get 5 t = .p h.next 0 0 2 ∧ get 15 t = v ∧ get 16 t = .i .i64 ((blksE L).length : Int) ∧ get 17 t = .i .i64 (j : Int) ∧ Stay nowhere h g ∧ Sb g (B.val h.next) 58 5 h.next U (idxU L j)) (blksE L).length ?_ ?_
  · simp (disch := first | omega | (simp only [lnv]; omega)) only [wlk, ↓get_put', ↓reduceIte, seval]
    refine ⟨0, U5, by omega, by omega, ?_⟩
    refine ⟨?_, ?_, ?_, ?_, s05, by unfold idxU; simpa using sb5⟩
    all_goals first | trivial | rfl
  rintro I hI m t g ⟨j, U, rfl, hj, f5, f15, f16, f17, st, sbg⟩
  have hfg := st.fl hf
  by_cases hjl : j < (blksE L).length
  case neg =>
    obtain rfl : j = (blksE L).length := by omega
    rw [idxU_all] at sbg
    have hil := (tab_lens ho hl).1
    repeat' (first
      | refine St.h ?_
      | simp (disch := first | omega | (simp only [lnv]; omega)) only [wlk, ↓get_put', ↓reduceIte, seval, f5, f16, f17]
      | (with_reducible (first | apply cd_split | apply gd_split)) <;> (intro hc; (try simp only [hcn] at hc); (try simp only [hc]); (try simp only [hcl] at hc); try omega))
    refine CL.mk (string_ok sbg (by omega)) ?_
    rintro _ g2 ⟨rfl, t2⟩
    repeat' (first
      | refine St.h ?_
      | simp (disch := first | omega | (simp only [lnv]; omega)) only [wlk, ↓get_put', ↓reduceIte, seval]
      | (with_reducible (first | apply cd_split | apply gd_split)) <;> (intro hc; (try simp only [hcn] at hc); (try simp only [hc]); (try simp only [hcl] at hc); try omega))
    subst hQ
    exact ⟨rfl, st.past' t2 fun q hq => (sbg.lo q hq).1⟩
  have hPg := hP.grow st
  have hbj := blks_ok ho _ (getD_mem hjl)
  have hlj := blks_each hjl
  have hp := okB_pos hbj
  have hix := idxU_succ hjl
  have hil := idxU_len ho (by omega) (j + 1) (by omega)
  have hk0 : (firstK ((blksE L).getD j [])).length ≤ 13 := (okB_key hbj (i := 0) (by omega)).2
  have hk1 : (lastK ((blksE L).getD j [])).length ≤ 13 := (okB_key hbj (i := ((blksE L).getD j []).length - 1) (by omega)).2
  have hbn := blkB_len (b := (blksE L).getD j []) (by omega)
  have hpa := pcs_at hjl
  have hoi := one_ilen ((blksE L).getD j [])
  have hoe : oneIx ((blksE L).getD j []) = numB (blkB ((blksE L).getD j [])).length ++ textB (firstK ((blksE L).getD j [])) ++ textB (lastK ((blksE L).getD j [])) := rfl
  rw [hix, List.length_append, hoi] at hil
  rw [hoe] at hix
  generalize (blksE L).getD j [] = bk at *
  have hpb : pcOf bk = ⟨blkB bk, firstK bk, lastK bk⟩ := rfl
  rw [hpb] at hpa
  repeat' (first
    | refine St.h ?_
    | simp (disch := first | omega | (simp only [lnv]; omega)) only [wlk, ↓get_put', ↓reduceIte, seval, f5, f15, f16, f17, hP.ix, hPg.la, hm, hpa, Int.toNat_natCast]
    | (with_reducible (first | apply cd_split | apply gd_split)) <;> (intro hc; (try simp only [hcn] at hc); (try simp only [hc]); (try simp only [hcl] at hc); try omega))
  refine AL.own (by simp) hfg fun g1 t1 m1 o1' => ?_
  have hfg1 := t1.fl hfg
  repeat' (first
    | refine St.h ?_
    | simp (disch := first | omega | (simp only [lnv]; omega)) only [wlk, ↓get_put', ↓reduceIte, seval, f5, f15, f16, f17, hP.ix, hPg.la, hm, hpa, Int.toNat_natCast]
    | (with_reducible (first | apply cd_split | apply gd_split)) <;> (intro hc; (try simp only [hcn] at hc); (try simp only [hc]); (try simp only [hcl] at hc); try omega))
  refine ST.all o1' rfl rfl (by simp) (by simp) fun g2 o2 t2 => ?_
  have t12 : Stay nowhere g g2 := t1.past' t2 fun q hq => by rw [hq]; exact Nat.le_refl _
  have hfg2 := t12.fl hfg
  have sb2' := sbg.stay t12 fun _ _ h => h
  have hnU : ¬ U g.next := fun hu => absurd (sbg.lo _ hu).2 (Nat.lt_irrefl _)
  repeat' (first
    | refine St.h ?_
    | simp (disch := first | omega | (simp only [lnv]; omega)) only [wlk, ↓get_put', ↓reduceIte, seval, f5, f15, f16, f17, o2.row.l1]
    | (with_reducible (first | apply cd_split | apply gd_split)) <;> (intro hc; (try simp only [hcn] at hc); (try simp only [hc]); (try simp only [hcl] at hc); try omega))
  refine CL.stay (num_ok (by omega) hfg2) fun g3 t3 => ?_
  rw [Int.toNat_natCast]
  have hfg3 := t3.fl hfg2
  have sb3' := sb2'.stay t3 fun _ _ h => h
  have o3 := o2.stay t3 fun h => h
  repeat' (first
    | refine St.h ?_
    | simp (disch := first | omega | (simp only [lnv]; omega)) only [wlk, ↓get_put', ↓reduceIte, seval, f5, f15, f16, f17]
    | (with_reducible (first | apply cd_split | apply gd_split)) <;> (intro hc; (try simp only [hcn] at hc); (try simp only [hc]); (try simp only [hcl] at hc); try omega))
  refine CL.mk (writeString_ok sb3' (by omega) hfg3) ?_
  rintro _ g4 ⟨U4, sb4', t4, hU4⟩
  have hfg4 := t4.fl hfg3
  have o4 := o3.stay t4 hnU
  have hn3 : B.val g.next < B.val g3.next := own_lt' o3
  have hnU4 : ¬ U4 g.next := fun hu => by
    rcases hU4 _ hu with h7 | h7
    · exact hnU h7
    · omega
  repeat' (first
    | refine St.h ?_
    | simp (disch := first | omega | (simp only [lnv]; omega)) only [wlk, ↓get_put', ↓reduceIte, seval, f5, f15, f16, f17, o4.row.l1]
    | (with_reducible (first | apply cd_split | apply gd_split)) <;> (intro hc; (try simp only [hcn] at hc); (try simp only [hc]); (try simp only [hcl] at hc); try omega))
  refine CL.stay (text_ok (by omega) hfg4) fun g5 t5 => ?_
  have hfg5 := t5.fl hfg4
  have sb5' := sb4'.stay t5 fun _ _ h => h
  have o5 := o4.stay t5 fun h => h
  have hn5 : B.val g.next < B.val g5.next := own_lt' o5
  repeat' (first
    | refine St.h ?_
    | simp (disch := first | omega | (simp only [lnv]; omega)) only [wlk, ↓get_put', ↓reduceIte, seval, f5, f15, f16, f17]
    | (with_reducible (first | apply cd_split | apply gd_split)) <;> (intro hc; (try simp only [hcn] at hc); (try simp only [hc]); (try simp only [hcl] at hc); try omega))
  refine CL.mk (writeString_ok sb5' (by simp only [List.length_append]; omega) hfg5) ?_
  rintro _ g6 ⟨U6, sb6, t6, hU6⟩
  have hfg6 := t6.fl hfg5
  have o6 := o5.stay t6 hnU4
  have hnU6 : ¬ U6 g.next := fun hu => by
    rcases hU6 _ hu with h7 | h7
    · exact hnU4 h7
    · omega
  repeat' (first
    | refine St.h ?_
    | simp (disch := first | omega | (simp only [lnv]; omega)) only [wlk, ↓get_put', ↓reduceIte, seval, f5, f15, f16, f17, o6.row.l1]
    | (with_reducible (first | apply cd_split | apply gd_split)) <;> (intro hc; (try simp only [hcn] at hc); (try simp only [hc]); (try simp only [hcl] at hc); try omega))
  refine CL.stay (text_ok (by omega) hfg6) fun g7 t7 => ?_
  have hfg7 := t7.fl hfg6
  have sb7 := sb6.stay t7 fun _ _ h => h
  repeat' (first
    | refine St.h ?_
    | simp (disch := first | omega | (simp only [lnv]; omega)) only [wlk, ↓get_put', ↓reduceIte, seval, f5, f15, f16, f17]
    | (with_reducible (first | apply cd_split | apply gd_split)) <;> (intro hc; (try simp only [hcn] at hc); (try simp only [hc]); (try simp only [hcl] at hc); try omega))
  refine CL.mk (writeString_ok sb7 (by simp only [List.length_append]; omega) hfg7) ?_
  rintro _ g8 ⟨U8, sb8, t8, hU8⟩
  have a4 := ((st.trans t12).trans t3).past' t4 fun q hq => (sb3'.lo q hq).1
  have a6 := (a4.trans t5).past' t6 fun q hq => (sb5'.lo q hq).1
  have a8 := (a6.trans t7).past' t8 fun q hq => (sb7.lo q hq).1
  repeat' (first
    | refine St.h ?_
    | simp (disch := first | omega | (simp only [lnv]; omega)) only [wlk, ↓get_put', ↓reduceIte, seval, f5, f15, f16, f17]
    | (with_reducible (first | apply cd_split | apply gd_split)) <;> (intro hc; (try simp only [hcn] at hc); (try simp only [hc]); (try simp only [hcl] at hc); try omega))
  refine lp_next hI ((blksE L).length - (j + 1)) (by omega) ⟨j + 1, U8, rfl, by omega, ?_, ?_, ?_, ?_, a8, by rw [hix]; simpa using sb8⟩
  all_goals (simp (disch := first | omega | (simp only [lnv]; omega)) only [wlk, ↓get_put', ↓reduceIte, seval, f5, f15, f16, f17]; try rfl)
theorem tmake_ok {h : H} {v : V} {L : List Ent} (hL : Es h v L) (hw : SwN 4 v) (hl : L.length ≤ 100) (hf : B.val h.floor ≤ B.val h.next) : FnOk Try.prog 9 [v] h fun y h' => y = .tu [sv (tabE L).1, .i .i64 (tabE L).2] ∧ Stay nowhere h h' := by
  refine fn_go c9 (by intro hb; cases hb) (by simp) (by simp) fun Q hQ => ?_
  simp only [slotsF, Nat.reduceAdd]
  have hm : ((blksE L).map pcOf).length = (blksE L).length := List.length_map _
  have hbl := blksE_len L
  repeat' (first
    | refine St.h ?_
    | simp (disch := first | omega | (simp only [lnv]; omega)) only [wlk, ↓get_put', ↓reduceIte, seval]
    | (with_reducible (first | apply cd_split | apply gd_split)) <;> (intro hc; (try simp only [hcn] at hc); (try simp only [hc]); (try simp only [hcl] at hc); try omega))
  refine CL.stay (bmake_ok hL (by omega) hf) fun h1 s1 => ?_
  have hf1 := s1.fl hf
  have hL1 := hL.grow s1
  by_cases hz : (blkE L).2 = 0
  case neg =>
    repeat' (first
      | refine St.h ?_
      | simp (disch := first | omega | (simp only [lnv]; omega)) only [wlk, ↓get_put', ↓reduceIte, seval, hz]
      | (with_reducible (first | apply cd_split | apply gd_split)) <;> (intro hc; (try simp only [hcn] at hc); (try simp only [hc]); (try simp only [hcl] at hc); try omega))
    subst hQ
    exact ⟨by rw [tabE_bad hz], s1⟩
  have hok : okB L := blkE_zero.1 hz
  rw [tabE_ok hz] at *
  repeat' (first
    | refine St.h ?_
    | simp (disch := first | omega | (simp only [lnv]; omega)) only [wlk, ↓get_put', ↓reduceIte, seval, hz]
    | (with_reducible (first | apply cd_split | apply gd_split)) <;> (intro hc; (try simp only [hcn] at hc); (try simp only [hc]); (try simp only [hcl] at hc); try omega))
  refine CL.mk (pack_ok hL1 hw hl hf1) ?_
  rintro u h2 ⟨hu, hwu, s2⟩
  have hf2 := s2.fl hf1
  have hL2 := hL1.grow s2
  have s02 := s1.trans s2
  repeat' (first
    | refine St.h ?_
    | simp (disch := first | omega | (simp only [lnv]; omega)) only [wlk, ↓get_put', ↓reduceIte, seval]
    | (with_reducible (first | apply cd_split | apply gd_split)) <;> (intro hc; (try simp only [hcn] at hc); (try simp only [hc]); (try simp only [hcl] at hc); try omega))
  refine AL.ownE (by simp) hf2 fun h3 s3 n3 o3 => ?_
  have hf3 := s3.fl hf2
  have sb : Sb h3 (B.val h2.next) 58 5 h2.next (fun i => i = h2.next) [] :=
    ⟨⟨.p0, .l0, o3, .inl rfl, Buf.nil _ _ _, fun i hi => absurd hi (by rintro ⟨_, _, _, _, _, e⟩; cases e), by rintro ⟨_, _, _, _, _, e⟩; cases e⟩, rfl, fun i hi => by rw [hi]; exact ⟨Nat.le_refl _, by omega⟩⟩
  have hu3 := hu.grow s3
  have hbt := bodyT_len (blksE_ne (L := L)) (by rw [blksE_flat]; omega)
  rw [blksE_flat] at hbt
  repeat' (first
    | refine St.h ?_
    | simp (disch := first | omega | (simp only [lnv]; omega)) only [wlk, ↓get_put', ↓reduceIte, seval, hu.ln, hm]
    | (with_reducible (first | apply cd_split | apply gd_split)) <;> (intro hc; (try simp only [hcn] at hc); (try simp only [hc]); (try simp only [hcl] at hc); try omega))
  refine Ok.lp (fun m t g => ∃ (j : Nat) (U : B → Prop), m = (blksE L).length - j ∧ j ≤ (blksE L).length ∧ get 0 t = v ∧ get 6 t = u ∧ get 7 t = .p h2.next 0 0 2 ∧ get 21 t = u ∧ get 22 t = .i .i64 ((blksE L).length : Int) ∧ get 23 t = .i .i64 (j : Int) ∧ Stay nowhere h2 g ∧ Sb g (B.val h2.next) 58 5 h2.next U (bodyT ((blksE L).take j))) (blksE L).length ?_ ?_
  · simp (disch := first | omega | (simp only [lnv]; omega)) only [wlk, ↓get_put', ↓reduceIte, seval]
    refine ⟨0, fun i => i = h2.next, by omega, by omega, ?_⟩
    refine ⟨?_, ?_, ?_, ?_, ?_, ?_, s3, sb⟩
    all_goals first | trivial | rfl
  rintro I hI m t g ⟨j, U, rfl, hj, f0, f6, f7, f21, f22, f23, st, sbg⟩
  have hfg := st.fl hf2
  have hug := hu.grow st
  by_cases hjl : j < (blksE L).length
  case pos =>
    have hlj := blks_each hjl
    have hbs := bodyT_succ hjl
    have hbn := blkB_len (b := (blksE L).getD j []) (by omega)
    have hbt2 : (bodyT ((blksE L).take (j + 1))).length ≤ 10000 := by
      have := offT_le (L := L) (j + 1)
      unfold offT at this; omega
    rw [hbs, List.length_append] at hbt2
    have hpa := pcs_at hjl
    generalize (blksE L).getD j [] = bk at *
    have hpb : pcOf bk = ⟨blkB bk, firstK bk, lastK bk⟩ := rfl
    rw [hpb] at hpa
    repeat' (first
      | refine St.h ?_
      | simp (disch := first | omega | (simp only [lnv]; omega)) only [wlk, ↓get_put', ↓reduceIte, seval, f0, f6, f7, f21, f22, f23, hu.ix, hug.la, hm, hpa, Int.toNat_natCast]
      | (with_reducible (first | apply cd_split | apply gd_split)) <;> (intro hc; (try simp only [hcn] at hc); (try simp only [hc]); (try simp only [hcl] at hc); try omega))
    refine AL.own (by simp) hfg fun g1 t1 m1 o1 => ?_
    have hfg1 := t1.fl hfg
    repeat' (first
      | refine St.h ?_
      | simp (disch := first | omega | (simp only [lnv]; omega)) only [wlk, ↓get_put', ↓reduceIte, seval, f0, f6, f7, f21, f22, f23, hu.ix, hug.la, hm, hpa, Int.toNat_natCast]
      | (with_reducible (first | apply cd_split | apply gd_split)) <;> (intro hc; (try simp only [hcn] at hc); (try simp only [hc]); (try simp only [hcl] at hc); try omega))
    refine ST.all o1 rfl rfl (by simp) (by simp) fun g2 o2 t2 => ?_
    have t12 : Stay nowhere g g2 := t1.past' t2 fun q hq => by rw [hq]; exact Nat.le_refl _
    have hfg2 := t12.fl hfg
    have sb2 := sbg.stay t12 fun _ _ h => h
    repeat' (first
      | refine St.h ?_
      | simp (disch := first | omega | (simp only [lnv]; omega)) only [wlk, ↓get_put', ↓reduceIte, seval, f0, f6, f7, f21, f22, f23, o2.row.l1]
      | (with_reducible (first | apply cd_split | apply gd_split)) <;> (intro hc; (try simp only [hcn] at hc); (try simp only [hc]); (try simp only [hcl] at hc); try omega))
    refine CL.mk (writeString_ok sb2 (by omega) hfg2) ?_
    rintro _ g3 ⟨U3, sb3, t3, hU3⟩
    have a3 := (st.trans t12).past' t3 fun q hq => (sb2.lo q hq).1
    repeat' (first
      | refine St.h ?_
      | simp (disch := first | omega | (simp only [lnv]; omega)) only [wlk, ↓get_put', ↓reduceIte, seval, f0, f6, f7, f21, f22, f23]
      | (with_reducible (first | apply cd_split | apply gd_split)) <;> (intro hc; (try simp only [hcn] at hc); (try simp only [hc]); (try simp only [hcl] at hc); try omega))
    refine lp_next hI ((blksE L).length - (j + 1)) (by omega) ⟨j + 1, U3, rfl, by omega, ?_, ?_, ?_, ?_, ?_, ?_, a3, by rw [hbs]; exact sb3⟩
    all_goals (simp (disch := first | omega | (simp only [lnv]; omega)) only [wlk, ↓get_put', ↓reduceIte, seval, f0, f6, f7, f21, f22, f23]; try rfl)
  obtain rfl : j = (blksE L).length := by omega
  rw [List.take_length] at sbg
  obtain ⟨c1, c2, c3⟩ := tab_lens hok hl
  have hLg := hL2.grow st
  have q1 := sealB_len (idxB L)
  have q2 := sealB_len (sieveB (keysE L))
  have q3 := numB_len (n := (idxB L).length) (by omega)
  have q4 := numB_len (n := (sieveB (keysE L)).length) (by omega)
  have q5 := fourB_len (bodyT (blksE L)).length
  have hkm : ∀ k ∈ keysE L, k.length ≤ 1000000 := fun k hk => by
    obtain ⟨e, he, rfl⟩ := keysE_mem.1 hk
    have := (isE_iff.1 (List.all_eq_true.1 hok.1 e he)).2
    omega
  repeat' (first
    | refine St.h ?_
    | simp (disch := first | omega | (simp only [lnv]; omega)) only [wlk, ↓get_put', ↓reduceIte, seval, f0, f6, f7, f21, f22, f23]
    | (with_reducible (first | apply cd_split | apply gd_split)) <;> (intro hc; (try simp only [hcn] at hc); (try simp only [hc]); (try simp only [hcl] at hc); try omega))
  refine CL.pure (blen_ok sbg) ?_
  repeat' (first
    | refine St.h ?_
    | simp (disch := first | omega | (simp only [lnv]; omega)) only [wlk, ↓get_put', ↓reduceIte, seval, f0, f6, f7, hL.ln]
    | (with_reducible (first | apply cd_split | apply gd_split)) <;> (intro hc; (try simp only [hcn] at hc); (try simp only [hc]); (try simp only [hcl] at hc); try omega))
  refine CL.stay (indexOf_ok hug hok hl hfg) fun g1 t1 => ?_
  have hfg1 := t1.fl hfg
  have sb1 := sbg.stay t1 fun _ _ h => h
  repeat' (first
    | refine St.h ?_
    | simp (disch := first | omega | (simp only [lnv]; omega)) only [wlk, ↓get_put', ↓reduceIte, seval, f0, f6, f7]
    | (with_reducible (first | apply cd_split | apply gd_split)) <;> (intro hc; (try simp only [hcn] at hc); (try simp only [hc]); (try simp only [hcl] at hc); try omega))
  refine CL.stay (seal_ok (by omega) hfg1) fun g2 t2 => ?_
  have hfg2 := t2.fl hfg1
  have sb2 := sb1.stay t2 fun _ _ h => h
  repeat' (first
    | refine St.h ?_
    | simp (disch := first | omega | (simp only [lnv]; omega)) only [wlk, ↓get_put', ↓reduceIte, seval, f0, f6, f7]
    | (with_reducible (first | apply cd_split | apply gd_split)) <;> (intro hc; (try simp only [hcn] at hc); (try simp only [hc]); (try simp only [hcl] at hc); try omega))
  refine CL.mk (writeString_ok sb2 (by omega) hfg2) ?_
  rintro _ g3 ⟨U3, sb3, t3, hU3⟩
  have a3 := ((st.trans t1).trans t2).past' t3 fun q hq => (sb2.lo q hq).1
  have hfg3 := a3.fl hf2
  repeat' (first
    | refine St.h ?_
    | simp (disch := first | omega | (simp only [lnv]; omega)) only [wlk, ↓get_put', ↓reduceIte, seval, f0, f6, f7]
    | (with_reducible (first | apply cd_split | apply gd_split)) <;> (intro hc; (try simp only [hcn] at hc); (try simp only [hc]); (try simp only [hcl] at hc); try omega))
  refine CL.mk (keysOf_ok (hL2.grow a3) hl hfg3) ?_
  rintro w g4 ⟨hw4, t4⟩
  have hfg4 := t4.fl hfg3
  have sb4 := sb3.stay t4 fun _ _ h => h
  repeat' (first
    | refine St.h ?_
    | simp (disch := first | omega | (simp only [lnv]; omega)) only [wlk, ↓get_put', ↓reduceIte, seval, f0, f6, f7]
    | (with_reducible (first | apply cd_split | apply gd_split)) <;> (intro hc; (try simp only [hcn] at hc); (try simp only [hc]); (try simp only [hcl] at hc); try omega))
  refine CL.stay (make_ok hw4 (by omega) hkm hfg4) fun g5 t5 => ?_
  have hfg5 := t5.fl hfg4
  have sb5 := sb4.stay t5 fun _ _ h => h
  repeat' (first
    | refine St.h ?_
    | simp (disch := first | omega | (simp only [lnv]; omega)) only [wlk, ↓get_put', ↓reduceIte, seval, f0, f6, f7]
    | (with_reducible (first | apply cd_split | apply gd_split)) <;> (intro hc; (try simp only [hcn] at hc); (try simp only [hc]); (try simp only [hcl] at hc); try omega))
  refine CL.stay (seal_ok (by omega) hfg5) fun g6 t6 => ?_
  have hfg6 := t6.fl hfg5
  have sb6 := sb5.stay t6 fun _ _ h => h
  repeat' (first
    | refine St.h ?_
    | simp (disch := first | omega | (simp only [lnv]; omega)) only [wlk, ↓get_put', ↓reduceIte, seval, f0, f6, f7]
    | (with_reducible (first | apply cd_split | apply gd_split)) <;> (intro hc; (try simp only [hcn] at hc); (try simp only [hc]); (try simp only [hcl] at hc); try omega))
  refine CL.mk (writeString_ok sb6 (by simp only [List.length_append]; omega) hfg6) ?_
  rintro _ g7 ⟨U7, sb7, t7, hU7⟩
  have a7 := (((a3.trans t4).trans t5).trans t6).past' t7 fun q hq => (sb6.lo q hq).1
  have hfg7 := a7.fl hf2
  repeat' (first
    | refine St.h ?_
    | simp (disch := first | omega | (simp only [lnv]; omega)) only [wlk, ↓get_put', ↓reduceIte, seval, f0, f6, f7, wrap_u8m]
    | (with_reducible (first | apply cd_split | apply gd_split)) <;> (intro hc; (try simp only [hcn] at hc); (try simp only [hc]); (try simp only [hcl] at hc); try omega))
  refine AL.own (by simp) hfg7 fun g8 t8 m8 o8 => ?_
  have hfg8 := t8.fl hfg7
  have sb8 := sb7.stay t8 fun _ _ h => h
  have hnU : ¬ U7 g7.next := fun hu => absurd (sb7.lo _ hu).2 (Nat.lt_irrefl _)
  have e4 : ([.i .u8 ((bodyT (blksE L)).length / 16777216 : Int), .i .u8 ((bodyT (blksE L)).length / 65536 : Int), .i .u8 ((bodyT (blksE L)).length / 256 : Int), .i .u8 ((bodyT (blksE L)).length % 256 : Int)] : List V) = (fourB (bodyT (blksE L)).length).map bv := by
    rw [← fourB_cells (by omega)]
    generalize (bodyT (blksE L)).length = n at *
    have a1 : ((n : Int) / 65536) = ((n / 65536 % 256 : Nat) : Int) := by omega
    have a2 : ((n : Int) / 256) = ((n / 256 % 256 : Nat) : Int) := by omega
    rw [a1, a2]; rfl
  rw [e4] at o8
  repeat' (first
    | refine St.h ?_
    | simp (disch := first | omega | (simp only [lnv]; omega)) only [wlk, ↓get_put', ↓reduceIte, seval, f0, f6, f7]
    | (with_reducible (first | apply cd_split | apply gd_split)) <;> (intro hc; (try simp only [hcn] at hc); (try simp only [hc]); (try simp only [hcl] at hc); try omega))
  refine CL.mk (bwrite_ok (c := fourB (bodyT (blksE L)).length) sb8 (by rw [q5]) o8 hnU (by omega) (by simp only [List.length_append]; omega) hfg8) ?_
  rintro _ g9 ⟨U9, sb9, t9, hU9⟩
  have a9 := (a7.trans t8).past' t9 fun q hq => (sb8.lo q hq).1
  repeat' (first
    | refine St.h ?_
    | simp (disch := first | omega | (simp only [lnv]; omega)) only [wlk, ↓get_put', ↓reduceIte, seval, f0, f6, f7]
    | (with_reducible (first | apply cd_split | apply gd_split)) <;> (intro hc; (try simp only [hcn] at hc); (try simp only [hc]); (try simp only [hcl] at hc); try omega))
  refine CL.mk (string_ok sb9 (by simp only [List.length_append]; omega)) ?_
  rintro _ g10 ⟨rfl, t10⟩
  repeat' (first
    | refine St.h ?_
    | simp (disch := first | omega | (simp only [lnv]; omega)) only [wlk, ↓get_put', ↓reduceIte, seval]
    | (with_reducible (first | apply cd_split | apply gd_split)) <;> (intro hc; (try simp only [hcn] at hc); (try simp only [hc]); (try simp only [hcl] at hc); try omega))
  subst hQ
  refine ⟨?_, s02.trans (a9.past' t10 fun q hq => (sb9.lo q hq).1)⟩
  unfold tabB
  simp
end Go.Proofs.Ytiingkpdodbldaa
