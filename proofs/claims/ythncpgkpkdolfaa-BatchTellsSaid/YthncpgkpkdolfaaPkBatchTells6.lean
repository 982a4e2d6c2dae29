/- Texts of ours, without what this claim does not use: NBaP JrBa2 NBa4 BaW ArgR ArgW NBaL BatchTells. No condition. -/
import Derived.Test.YthncpgkpkdolfaaPkBatchTells5
import Derived.Test.YthncpgkpkdolfaaProg
import Derived.KernelRfl
import Derived.Test.YthncpgkpkdolfaaRows
import Derived.WalkKit
import Derived.ProofKit
import Derived.OpenShut
import Derived.ChangeMaps5
set_option maxRecDepth 100000
set_option maxHeartbeats 8000000
set_option linter.all false
namespace Go.Proofs.Ythncpgkpkdolfaa
open Go Go.Ev
theorem known12 {h : H} : FnOk Try.prog 7 [] h fun y h' => y = .b true ∧ h' = h := FnOk.of_pure ravelinlaw12.known_pure h
theorem bis_ok {h : H} {v : V} {L : List Wri} (hL : Ws h v L) (hl : L.length ≤ 10000) (hf : B.val h.floor ≤ B.val h.next) : FnOk Try.prog 15 [v] h fun y h' => y = .b (isB L) ∧ Stay nowhere h h' := by
  refine fn_go c15 (by intro hb; cases hb) (by simp) (by simp) fun Q hQ => ?_
  simp only [slotsF, Nat.reduceAdd]
  by_cases h8 : 8 < L.length
  · have d1 : ((8 : Int) < (L.length : Int)) = True := eq_true (by omega)
    repeat' (first
      | refine St.h ?_
      | simp (disch := first | omega | (simp only [lnv]; omega)) only [wlk, ↓get_put', ↓reduceIte, seval, hL.ln, d1]
      | (with_reducible (first | apply cd_split | apply gd_split)) <;> (intro hc; (try simp only [hcn] at hc); (try simp only [hc]); (try simp only [hcl] at hc); try omega))
    subst hQ
    exact ⟨by unfold isB; rw [decide_eq_false (by omega), Bool.and_false], Stay.refl _ _⟩
  have d1 : ((8 : Int) < (L.length : Int)) = False := eq_false (by omega)
  repeat' (first
    | refine St.h ?_
    | simp (disch := first | omega | (simp only [lnv]; omega)) only [wlk, ↓get_put', ↓reduceIte, seval, hL.ln, d1]
    | (with_reducible (first | apply cd_split | apply gd_split)) <;> (intro hc; (try simp only [hcn] at hc); (try simp only [hc]); (try simp only [hcl] at hc); try omega))
  refine Ok.lp (fun m t g => ∃ j : Nat, m = L.length - j ∧ j ≤ L.length ∧ Stay nowhere h g ∧ upU L j = true ∧ get 0 t = v ∧ get 8 t = v ∧ get 9 t = .i .i64 (L.length : Int) ∧ get 10 t = .i .i64 (j : Int)) L.length ?_ ?_
  · simp (disch := first | omega | (simp only [lnv]; omega)) only [wlk, ↓get_put', ↓reduceIte, seval]
    refine ⟨0, by omega, by omega, Stay.refl _ _, rfl, ?_⟩
    repeat' (first | trivial | rfl | refine And.intro ?_ ?_)
  rintro I hI m t g ⟨j, rfl, hj, st, hs, f0, f8, f9, f10⟩
  have hLg := hL.grow st
  have hfg := st.fl hf
  by_cases hjl : j < L.length
  case neg =>
    obtain rfl : j = L.length := by omega
    have d2 : ((L.length : Int) < (L.length : Int)) = False := eq_false (by omega)
    repeat' (first
      | refine St.h ?_
      | simp (disch := first | omega | (simp only [lnv]; omega)) only [wlk, ↓get_put', ↓reduceIte, seval, f0, f8, f9, f10, d2]
      | (with_reducible (first | apply cd_split | apply gd_split)) <;> (intro hc; (try simp only [hcn] at hc); (try simp only [hc]); (try simp only [hcl] at hc); try omega))
    subst hQ
    exact ⟨by unfold isB; rw [hs, decide_eq_true (by omega)]; rfl, st⟩
  have d2 : ((j : Int) < (L.length : Int)) = True := eq_true (by omega)
  repeat' (first
    | refine St.h ?_
    | simp (disch := first | omega | (simp only [lnv]; omega)) only [wlk, ↓get_put', ↓reduceIte, seval, f0, f8, f9, f10, d2, hLg.ix, hLg.la, Int.toNat_natCast]
    | (with_reducible (first | apply cd_split | apply gd_split)) <;> (intro hc; (try simp only [hcn] at hc); (try simp only [hc]); (try simp only [hcl] at hc); try omega))
  refine AL.own (by simp) hfg fun g1 t1 _ o1 => ?_
  have hf1 := t1.fl hfg
  repeat' (first
    | refine St.h ?_
    | simp (disch := first | omega | (simp only [lnv]; omega)) only [wlk, ↓get_put', ↓reduceIte, seval, f0, f8, f9, f10]
    | (with_reducible (first | apply cd_split | apply gd_split)) <;> (intro hc; (try simp only [hcn] at hc); (try simp only [hc]); (try simp only [hcl] at hc); try omega))
  refine ST.all o1 rfl rfl (by simp) (by simp) fun g2 o2 t2 => ?_
  have hf2 := t2.fl hf1
  have tt : Stay nowhere g g2 := t1.past' t2 fun q hq => by rw [hq]; exact Nat.le_refl _
  have r2 := o2.row
  repeat' (first
    | refine St.h ?_
    | simp (disch := first | omega | (simp only [lnv]; omega)) only [wlk, ↓get_put', ↓reduceIte, seval, f0, f8, f9, f10, r2.ln]
    | (with_reducible (first | apply cd_split | apply gd_split)) <;> (intro hc; (try simp only [hcn] at hc); (try simp only [hc]); (try simp only [hcl] at hc); try omega))
  refine CL.stay (isWrite_ok hf2) fun g3 t3 => ?_
  have t4 := tt.trans t3
  have L3 := hLg.grow t4
  have o3 := o2.stay t3 fun h => h
  have r3 := o3.row
  have st3 := st.trans t4
  cases hw : isW (L.getD j default).key (L.getD j default).del (L.getD j default).val with
  | false =>
    have hn : isB L = false := upU_no hjl (by unfold upA isR; rw [hw]; rfl)
    repeat' (first
      | refine St.h ?_
      | simp (disch := first | omega | (simp only [lnv]; omega)) only [wlk, ↓get_put', ↓reduceIte, seval, f0, f8, f9, f10]
      | (with_reducible (first | apply cd_split | apply gd_split)) <;> (intro hc; (try simp only [hcn] at hc); (try simp only [hc]); (try simp only [hcl] at hc); try omega))
    subst hQ
    exact ⟨by rw [hn], st3⟩
  | true =>
  by_cases h0 : j = 0
  · have hu : upA L j = true := by unfold upA isR; rw [hw, decide_eq_true h0]; rfl
    have hz : ((0 : Int) < (j : Int)) = False := eq_false (by omega)
    repeat' (first
      | refine St.h ?_
      | simp (disch := first | omega | (simp only [lnv]; omega)) only [wlk, ↓get_put', ↓reduceIte, seval, f0, f8, f9, f10, hz]
      | (with_reducible (first | apply cd_split | apply gd_split)) <;> (intro hc; (try simp only [hcn] at hc); (try simp only [hc]); (try simp only [hcl] at hc); try omega))
    refine lp_next hI (L.length - (j + 1)) (by omega) ⟨j + 1, rfl, by omega, st3, by rw [upU_succ, hs, hu]; rfl, by simp (disch := first | omega | (simp only [lnv]; omega)) only [wlk, ↓get_put', ↓reduceIte, seval, f0], by simp (disch := first | omega | (simp only [lnv]; omega)) only [wlk, ↓get_put', ↓reduceIte, seval, f8], by simp (disch := first | omega | (simp only [lnv]; omega)) only [wlk, ↓get_put', ↓reduceIte, seval, f9], by simp (disch := first | omega | (simp only [lnv]; omega)) only [wlk, ↓get_put', ↓reduceIte, seval, f10]; rfl⟩
  · have ek : ((j : Int) - 1).toNat = j - 1 := by omega
    have hz : ((0 : Int) < (j : Int)) = True := eq_true (by omega)
    have hu : upA L j = Op.bytesLess (L.getD (j - 1) default).key (L.getD j default).key := by unfold upA isR; rw [hw, decide_eq_false h0]; rfl
    cases hk : Op.bytesLess (L.getD (j - 1) default).key (L.getD j default).key with
    | false =>
      have hn : isB L = false := upU_no hjl (by rw [hu, hk])
      repeat' (first
        | refine St.h ?_
        | simp (disch := first | omega | (simp only [lnv]; omega)) only [wlk, ↓get_put', ↓reduceIte, seval, f0, f8, f9, f10, hz, ek, L3.ix, L3.l0, r3.l1, hk]
        | (with_reducible (first | apply cd_split | apply gd_split)) <;> (intro hc; (try simp only [hcn] at hc); (try simp only [hc]); (try simp only [hcl] at hc); try omega))
      subst hQ
      exact ⟨by rw [hn], st3⟩
    | true =>
      repeat' (first
        | refine St.h ?_
        | simp (disch := first | omega | (simp only [lnv]; omega)) only [wlk, ↓get_put', ↓reduceIte, seval, f0, f8, f9, f10, hz, ek, L3.ix, L3.l0, r3.l1, hk]
        | (with_reducible (first | apply cd_split | apply gd_split)) <;> (intro hc; (try simp only [hcn] at hc); (try simp only [hc]); (try simp only [hcl] at hc); try omega))
      refine lp_next hI (L.length - (j + 1)) (by omega) ⟨j + 1, rfl, by omega, st3, by rw [upU_succ, hs, hu, hk]; rfl, by simp (disch := first | omega | (simp only [lnv]; omega)) only [wlk, ↓get_put', ↓reduceIte, seval, f0], by simp (disch := first | omega | (simp only [lnv]; omega)) only [wlk, ↓get_put', ↓reduceIte, seval, f8], by simp (disch := first | omega | (simp only [lnv]; omega)) only [wlk, ↓get_put', ↓reduceIte, seval, f9], by simp (disch := first | omega | (simp only [lnv]; omega)) only [wlk, ↓get_put', ↓reduceIte, seval, f10]; rfl⟩
theorem blay_ok {h : H} {w : Wri} (hk : w.key.length ≤ 1000) (hv : w.val.length ≤ 1000) (hf : B.val h.floor ≤ B.val h.next) : FnOk Try.prog 25 [.a [sv w.key, .b w.del, sv w.val]] h fun y h' => y = sv (oneB w) ∧ Stay nowhere h h' := by
  have l1 := textB_len w.key (by omega)
  have l2 := textB_len w.val (by omega)
  refine fn_go c25 (by intro hb; cases hb) (by simp) (by simp) fun Q hQ => ?_
  simp only [slotsF, Nat.reduceAdd]
  repeat' (first
    | refine St.h ?_
    | simp (disch := first | omega | (simp only [lnv]; omega)) only [wlk, ↓get_put', ↓reduceIte, seval]
    | (with_reducible (first | apply cd_split | apply gd_split)) <;> (intro hc; (try simp only [hcn] at hc); (try simp only [hc]); (try simp only [hcl] at hc); try omega))
  refine AL.own (by simp) hf fun h1 s1 n1 o1 => ?_
  have hf1 := s1.fl hf
  cases hd : w.del with
  | true =>
    have hb : oneB w = textB w.key ++ [1] := by unfold oneB; rw [hd]; rfl
    repeat' (first
      | refine St.h ?_
      | simp (disch := first | omega | (simp only [lnv]; omega)) only [wlk, ↓get_put', ↓reduceIte, seval, o1.row.l1, hd]
      | (with_reducible (first | apply cd_split | apply gd_split)) <;> (intro hc; (try simp only [hcn] at hc); (try simp only [hc]); (try simp only [hcl] at hc); try omega))
    refine CL.stayU (text_ok (by omega) (re_fl _)) fun h3 s3 => ?_
    have hf3 := s3.fl hf1
    repeat' (first
      | refine St.h ?_
      | simp (disch := first | omega | (simp only [lnv]; omega)) only [wlk, ↓get_put', ↓reduceIte, seval]
      | (with_reducible (first | apply cd_split | apply gd_split)) <;> (intro hc; (try simp only [hcn] at hc); (try simp only [hc]); (try simp only [hcl] at hc); try omega))
    refine AL.strU (bs := [1]) rfl (by simp) rfl rfl (by simp) hf3 fun h5 u5 s5 => ?_
    repeat' (first
      | refine St.h ?_
      | simp (disch := first | omega | (simp only [lnv]; omega)) only [wlk, ↓get_put', ↓reduceIte, seval]
      | (with_reducible (first | apply cd_split | apply gd_split)) <;> (intro hc; (try simp only [hcn] at hc); (try simp only [hc]); (try simp only [hcl] at hc); try omega))
    subst hQ
    exact ⟨by rw [hb], (s1.trans s3).trans s5⟩
  | false =>
    have hb : oneB w = textB w.key ++ 0 :: textB w.val := by unfold oneB; rw [hd]; rfl
    repeat' (first
      | refine St.h ?_
      | simp (disch := first | omega | (simp only [lnv]; omega)) only [wlk, ↓get_put', ↓reduceIte, seval, o1.row.l1, hd]
      | (with_reducible (first | apply cd_split | apply gd_split)) <;> (intro hc; (try simp only [hcn] at hc); (try simp only [hc]); (try simp only [hcl] at hc); try omega))
    refine CL.stayU (text_ok (by omega) (re_fl _)) fun h3 s3 => ?_
    have o3 := o1.stay s3 fun h => h
    have hf3 := s3.fl hf1
    repeat' (first
      | refine St.h ?_
      | simp (disch := first | omega | (simp only [lnv]; omega)) only [wlk, ↓get_put', ↓reduceIte, seval]
      | (with_reducible (first | apply cd_split | apply gd_split)) <;> (intro hc; (try simp only [hcn] at hc); (try simp only [hc]); (try simp only [hcl] at hc); try omega))
    refine AL.strU (bs := [0]) rfl (by simp) rfl rfl (by simp) hf3 fun h5 u5 s5 => ?_
    have o5 := o3.stay s5 fun h => h
    have hf5 := s5.fl hf3
    repeat' (first
      | refine St.h ?_
      | simp (disch := first | omega | (simp only [lnv]; omega)) only [wlk, ↓get_put', ↓reduceIte, seval, o5.row.l1]
      | (with_reducible (first | apply cd_split | apply gd_split)) <;> (intro hc; (try simp only [hcn] at hc); (try simp only [hc]); (try simp only [hcl] at hc); try omega))
    refine CL.stayU (text_ok (by omega) (re_fl _)) fun h6 s6 => ?_
    repeat' (first
      | refine St.h ?_
      | simp (disch := first | omega | (simp only [lnv]; omega)) only [wlk, ↓get_put', ↓reduceIte, seval]
      | (with_reducible (first | apply cd_split | apply gd_split)) <;> (intro hc; (try simp only [hcn] at hc); (try simp only [hc]); (try simp only [hcl] at hc); try omega))
    subst hQ
    exact ⟨by rw [hb]; simp, ((s1.trans s3).trans s5).trans s6⟩
theorem bbytes_ok {h : H} {v : V} {seq : Int} {L : List Wri} (hL : Ws h v L) (hl : L.length ≤ 10000) (hs : -9223372036854775808 ≤ seq) (hs2 : seq ≤ 9223372036854775807) (hf : B.val h.floor ≤ B.val h.next) : FnOk Try.prog 9 [.i .i64 seq, v] h fun y h' => y = .tu [sv (bytB seq L).1, .i .i64 (bytB seq L).2] ∧ Stay nowhere h h' := by
  refine fn_go c9 (by intro hb; cases hb) (by simp) (by simp) fun Q hQ => ?_
  simp only [slotsF, Nat.reduceAdd]
  repeat' (first
    | refine St.h ?_
    | simp (disch := first | omega | (simp only [lnv]; omega)) only [wlk, ↓get_put', ↓reduceIte, seval]
    | (with_reducible (first | apply cd_split | apply gd_split)) <;> (intro hc; (try simp only [hcn] at hc); (try simp only [hc]); (try simp only [hcl] at hc); try omega))
  refine CL.stay (bis_ok hL hl hf) fun h1 s1 => ?_
  have hf1 := s1.fl hf
  have hL1 := hL.grow s1
  have hno : okB12 seq L = false → bytB seq L = ([], 10) := fun e => by unfold bytB; rw [e]; rfl
  cases hB : isB L with
  | false =>
    have e := hno (by unfold okB12; rw [hB]; rfl)
    repeat' (first
      | refine St.h ?_
      | simp (disch := first | omega | (simp only [lnv]; omega)) only [wlk, ↓get_put', ↓reduceIte, seval]
      | (with_reducible (first | apply cd_split | apply gd_split)) <;> (intro hc; (try simp only [hcn] at hc); (try simp only [hc]); (try simp only [hcl] at hc); try omega))
    subst hQ
    exact ⟨by rw [e], s1⟩
  | true =>
  by_cases q1 : seq < 1
  · have e := hno (by unfold okB12; rw [hB, decide_eq_false (by omega)]; rfl)
    repeat' (first
      | refine St.h ?_
      | simp (disch := first | omega | (simp only [lnv]; omega)) only [wlk, ↓get_put', ↓reduceIte, seval]
      | (with_reducible (first | apply cd_split | apply gd_split)) <;> (intro hc; (try simp only [hcn] at hc); (try simp only [hc]); (try simp only [hcl] at hc); try omega))
    subst hQ
    exact ⟨by rw [e], s1⟩
  by_cases q2 : 1000000 < seq
  · have e := hno (by unfold okB12; rw [hB, decide_eq_false (by omega)]; rfl)
    repeat' (first
      | refine St.h ?_
      | simp (disch := first | omega | (simp only [lnv]; omega)) only [wlk, ↓get_put', ↓reduceIte, seval]
      | (with_reducible (first | apply cd_split | apply gd_split)) <;> (intro hc; (try simp only [hcn] at hc); (try simp only [hc]); (try simp only [hcl] at hc); try omega))
    subst hQ
    exact ⟨by rw [e], s1⟩
  have e : bytB seq L = (batB seq L, 0) := by unfold bytB okB12; rw [hB, decide_eq_true (by omega)]; rfl
  have ln := numB_len (n := seq.toNat) (by omega)
  have ln2 := numB_len (n := L.length) (by omega)
  have lr := rowsB_len hB
  have en : ((L.length : Int)).toNat = L.length := by omega
  repeat' (first
    | refine St.h ?_
    | simp (disch := first | omega | (simp only [lnv]; omega)) only [wlk, ↓get_put', ↓reduceIte, seval]
    | (with_reducible (first | apply cd_split | apply gd_split)) <;> (intro hc; (try simp only [hcn] at hc); (try simp only [hc]); (try simp only [hcl] at hc); try omega))
  refine AL.ownE (by simp) hf1 fun h2 s2 n2 o2 => ?_
  have hf2 := s2.fl hf1
  have sb : Sb h2 (B.val h1.next) 54 5 h1.next (fun i => i = h1.next) [] :=
    ⟨⟨.p0, .l0, o2, .inl rfl, Buf.nil _ _ _, fun i hi => absurd hi (by rintro ⟨_, _, _, _, _, e⟩; cases e), by rintro ⟨_, _, _, _, _, e⟩; cases e⟩, rfl, fun i hi => by rw [hi]; exact ⟨Nat.le_refl _, by omega⟩⟩
  repeat' (first
    | refine St.h ?_
    | simp (disch := first | omega | (simp only [lnv]; omega)) only [wlk, ↓get_put', ↓reduceIte, seval]
    | (with_reducible (first | apply cd_split | apply gd_split)) <;> (intro hc; (try simp only [hcn] at hc); (try simp only [hc]); (try simp only [hcl] at hc); try omega))
  refine CL.stay (num_ok (by omega) hf2) fun h3 s3 => ?_
  have hf3 := s3.fl hf2
  have sb3 := sb.stay s3 fun _ _ h => h
  have a3 := s2.trans s3
  repeat' (first
    | refine St.h ?_
    | simp (disch := first | omega | (simp only [lnv]; omega)) only [wlk, ↓get_put', ↓reduceIte, seval]
    | (with_reducible (first | apply cd_split | apply gd_split)) <;> (intro hc; (try simp only [hcn] at hc); (try simp only [hc]); (try simp only [hcl] at hc); try omega))
  refine CL.mk (writeString_ok sb3 (by simp; omega) hf3) ?_
  rintro _ h4 ⟨U4, sb4, s4, hU4⟩
  have hf4 := s4.fl hf3
  have a4 := a3.past' s4 fun q hq => (sb3.lo q hq).1
  have hL4 := hL1.grow a4
  repeat' (first
    | refine St.h ?_
    | simp (disch := first | omega | (simp only [lnv]; omega)) only [wlk, ↓get_put', ↓reduceIte, seval, hL4.ln]
    | (with_reducible (first | apply cd_split | apply gd_split)) <;> (intro hc; (try simp only [hcn] at hc); (try simp only [hc]); (try simp only [hcl] at hc); try omega))
  refine CL.stay (num_ok (by omega) hf4) fun h5 s5 => ?_
  have hf5 := s5.fl hf4
  have sb5 := sb4.stay s5 fun _ _ h => h
  have a5 := a4.trans s5
  repeat' (first
    | refine St.h ?_
    | simp (disch := first | omega | (simp only [lnv]; omega)) only [wlk, ↓get_put', ↓reduceIte, seval, en]
    | (with_reducible (first | apply cd_split | apply gd_split)) <;> (intro hc; (try simp only [hcn] at hc); (try simp only [hc]); (try simp only [hcl] at hc); try omega))
  refine CL.mk (writeString_ok sb5 (by simp; omega) hf5) ?_
  rintro _ h6 ⟨U6, sb6, s6, hU6⟩
  have hf6 := s6.fl hf5
  have a6 := a5.past' s6 fun q hq => (sb5.lo q hq).1
  have hL6 := hL1.grow a6
  repeat' (first
    | refine St.h ?_
    | simp (disch := first | omega | (simp only [lnv]; omega)) only [wlk, ↓get_put', ↓reduceIte, seval, hL6.ln]
    | (with_reducible (first | apply cd_split | apply gd_split)) <;> (intro hc; (try simp only [hcn] at hc); (try simp only [hc]); (try simp only [hcl] at hc); try omega))
  refine Ok.lp (fun m t g => ∃ (j : Nat) (U : B → Prop), m = L.length - j ∧ j ≤ L.length ∧ Stay nowhere h1 g ∧ Sb g (B.val h1.next) 54 5 h1.next U (numB seq.toNat ++ (numB L.length ++ (L.take j).flatMap oneB)) ∧ get 6 t = .p h1.next 0 0 2 ∧ get 27 t = v ∧ get 28 t = .i .i64 (L.length : Int) ∧ get 29 t = .i .i64 (j : Int)) L.length ?_ ?_
  · simp (disch := first | omega | (simp only [lnv]; omega)) only [wlk, ↓get_put', ↓reduceIte, seval]
    refine ⟨0, U6, by omega, by omega, a6, by simpa using sb6, ?_⟩
    repeat' (first | trivial | rfl | refine And.intro ?_ ?_)
  rintro I hI m t g ⟨j, U, rfl, hj, st, sbg, f6, f27, f28, f29⟩
  have hfg := st.fl hf1
  have hLg := hL1.grow st
  have hrl := rows_len hB hj
  by_cases hjl : j < L.length
  case neg =>
    obtain rfl : j = L.length := by omega
    have d1 : ((L.length : Int) < (L.length : Int)) = False := eq_false (by omega)
    rw [List.take_length] at sbg
    repeat' (first
      | refine St.h ?_
      | simp (disch := first | omega | (simp only [lnv]; omega)) only [wlk, ↓get_put', ↓reduceIte, seval, f6, f27, f28, f29, d1]
      | (with_reducible (first | apply cd_split | apply gd_split)) <;> (intro hc; (try simp only [hcn] at hc); (try simp only [hc]); (try simp only [hcl] at hc); try omega))
    refine CL.mk (string_ok sbg (by have : (numB L.length ++ L.flatMap oneB).length ≤ 500 := lr; rw [List.length_append]; omega)) ?_
    rintro _ g2 ⟨rfl, t2⟩
    have st2 := st.past' t2 fun i hi => (sbg.lo i hi).1
    repeat' (first
      | refine St.h ?_
      | simp (disch := first | omega | (simp only [lnv]; omega)) only [wlk, ↓get_put', ↓reduceIte, seval]
      | (with_reducible (first | apply cd_split | apply gd_split)) <;> (intro hc; (try simp only [hcn] at hc); (try simp only [hc]); (try simp only [hcl] at hc); try omega))
    refine CL.stay (seal_ok (by have : (numB L.length ++ L.flatMap oneB).length ≤ 500 := lr; rw [List.length_append]; omega) (st2.fl hf1)) fun g3 t3 => ?_
    repeat' (first
      | refine St.h ?_
      | simp (disch := first | omega | (simp only [lnv]; omega)) only [wlk, ↓get_put', ↓reduceIte, seval]
      | (with_reducible (first | apply cd_split | apply gd_split)) <;> (intro hc; (try simp only [hcn] at hc); (try simp only [hc]); (try simp only [hcl] at hc); try omega))
    subst hQ
    exact ⟨by rw [e]; rfl, s1.trans (st2.trans t3)⟩
  have d1 : ((j : Int) < (L.length : Int)) = True := eq_true (by omega)
  have hr := isR_len (upA_is (isB_up hB hjl))
  have h1l := oneB_len (upA_is (isB_up hB hjl))
  have hcat := rowsB_take hjl
  repeat' (first
    | refine St.h ?_
    | simp (disch := first | omega | (simp only [lnv]; omega)) only [wlk, ↓get_put', ↓reduceIte, seval, f6, f27, f28, f29, d1, hLg.ix, hLg.la, Int.toNat_natCast]
    | (with_reducible (first | apply cd_split | apply gd_split)) <;> (intro hc; (try simp only [hcn] at hc); (try simp only [hc]); (try simp only [hcl] at hc); try omega))
  refine AL.own (by simp) hfg fun g1 t1 _ o1 => ?_
  have hf1' := t1.fl hfg
  repeat' (first
    | refine St.h ?_
    | simp (disch := first | omega | (simp only [lnv]; omega)) only [wlk, ↓get_put', ↓reduceIte, seval, f6, f27, f28, f29]
    | (with_reducible (first | apply cd_split | apply gd_split)) <;> (intro hc; (try simp only [hcn] at hc); (try simp only [hc]); (try simp only [hcl] at hc); try omega))
  refine ST.all o1 rfl rfl (by simp) (by simp) fun g2 o2 t2 => ?_
  have hf2' := t2.fl hf1'
  have tt : Stay nowhere g g2 := t1.past' t2 fun q hq => by rw [hq]; exact Nat.le_refl _
  have sb2 := sbg.stay tt fun _ _ h => h
  repeat' (first
    | refine St.h ?_
    | simp (disch := first | omega | (simp only [lnv]; omega)) only [wlk, ↓get_put', ↓reduceIte, seval, f6, f27, f28, f29, o2.row.ln]
    | (with_reducible (first | apply cd_split | apply gd_split)) <;> (intro hc; (try simp only [hcn] at hc); (try simp only [hc]); (try simp only [hcl] at hc); try omega))
  refine CL.stay (blay_ok (w := L.getD j default) (by omega) (by omega) hf2') fun g3 t3 => ?_
  have sb3 := sb2.stay t3 fun _ _ h => h
  repeat' (first
    | refine St.h ?_
    | simp (disch := first | omega | (simp only [lnv]; omega)) only [wlk, ↓get_put', ↓reduceIte, seval, f6, f27, f28, f29]
    | (with_reducible (first | apply cd_split | apply gd_split)) <;> (intro hc; (try simp only [hcn] at hc); (try simp only [hc]); (try simp only [hcl] at hc); try omega))
  refine CL.mk (writeString_ok sb3 (by simp only [List.length_append]; omega) (t3.fl hf2')) ?_
  rintro _ g4 ⟨U4, sb4, t4, hU4⟩
  repeat' (first
    | refine St.h ?_
    | simp (disch := first | omega | (simp only [lnv]; omega)) only [wlk, ↓get_put', ↓reduceIte, seval, f6, f27, f28, f29]
    | (with_reducible (first | apply cd_split | apply gd_split)) <;> (intro hc; (try simp only [hcn] at hc); (try simp only [hc]); (try simp only [hcl] at hc); try omega))
  refine lp_next hI (L.length - (j + 1)) (by omega) ⟨j + 1, U4, rfl, by omega, ((st.trans tt).trans t3).past' t4 fun q hq => (sb3.lo q hq).1, by rw [hcat, ← List.append_assoc]; exact sb4, by simp (disch := first | omega | (simp only [lnv]; omega)) only [wlk, ↓get_put', ↓reduceIte, seval, f6], by simp (disch := first | omega | (simp only [lnv]; omega)) only [wlk, ↓get_put', ↓reduceIte, seval, f27], by simp (disch := first | omega | (simp only [lnv]; omega)) only [wlk, ↓get_put', ↓reduceIte, seval, f28], by simp (disch := first | omega | (simp only [lnv]; omega)) only [wlk, ↓get_put', ↓reduceIte, seval, f29]; rfl⟩
theorem btake_ok {h : H} {s : List UInt8} (hs : s.length ≤ 1000000) (hf : B.val h.floor ≤ B.val h.next) : FnOk Try.prog 49 [sv s] h fun y h' => ∃ (w : Wri) (k : Nat) (b : Bool), y = .tu [.a (wriC w), .i .i64 (k : Int), .b b] ∧ Stay nowhere h h' ∧ (b = false → tkP s = none) ∧ (b = true → tkP s = some (w, k) ∧ 1 ≤ k ∧ k ≤ s.length) := by
  refine fn_go c49 (by intro hb; cases hb) (by simp) (by simp) fun Q hQ => ?_
  simp only [slotsF, Nat.reduceAdd]
  repeat' (first
    | refine St.h ?_
    | simp (disch := first | omega | (simp only [lnv]; omega)) only [wlk, ↓get_put', ↓reduceIte, seval]
    | (with_reducible (first | apply cd_split | apply gd_split)) <;> (intro hc; (try simp only [hcn] at hc); (try simp only [hc]); (try simp only [hcl] at hc); try omega))
  refine AL.own (by simp) hf fun h1 s1 n1 o1 => ?_
  have hf1 := s1.fl hf
  repeat' (first
    | refine St.h ?_
    | simp (disch := first | omega | (simp only [lnv]; omega)) only [wlk, ↓get_put', ↓reduceIte, seval]
    | (with_reducible (first | apply cd_split | apply gd_split)) <;> (intro hc; (try simp only [hcn] at hc); (try simp only [hc]); (try simp only [hcl] at hc); try omega))
  refine CL.pure (takeText_ok hs) ?_
  have hz0 : ((10 : Int) = 0) = False := eq_false (by decide)
  have hz1 : ((12 : Int) = 0) = False := eq_false (by decide)
  have no : ∀ {g : H} {w : Wri} {k : Nat}, Stay nowhere h g → tkP s = none → ∃ (w' : Wri) (k' : Nat) (b : Bool), V.tu [.a [sv w.key, .b w.del, sv w.val], .i .i64 (k : Int), .b false] = .tu [.a (wriC w'), .i .i64 (k' : Int), .b b] ∧ Stay nowhere h g ∧ (b = false → tkP s = none) ∧ (b = true → tkP s = some (w', k') ∧ 1 ≤ k' ∧ k' ≤ s.length) := fun {g w k} st en => ⟨w, k, false, rfl, st, fun _ => en, fun h => by cases h⟩
  have past : ∀ {g2 : H}, Stay (fun i => i = h.next) h1 g2 → Stay nowhere h g2 := fun t2 => s1.past' t2 fun q hq => by rw [hq]; exact Nat.le_refl _
  rcases takeT_range s with (e1 | e1) | ⟨x, q, e1, q1, q2, q3⟩
  · have en : tkP s = none := by unfold tkP; rw [e1]; rfl
    repeat' (first
      | refine St.h ?_
      | simp (disch := first | omega | (simp only [lnv]; omega)) only [wlk, ↓get_put', ↓reduceIte, seval, e1, triT, hz0]
      | (with_reducible (first | apply cd_split | apply gd_split)) <;> (intro hc; (try simp only [hcn] at hc); (try simp only [hc]); (try simp only [hcl] at hc); try omega))
    refine ST.all o1 rfl rfl (by simp) (by simp) fun g2 o2 t2 => ?_
    repeat' (first
      | refine St.h ?_
      | simp (disch := first | omega | (simp only [lnv]; omega)) only [wlk, ↓get_put', ↓reduceIte, seval, o2.row.ln, o2.ra3]
      | (with_reducible (first | apply cd_split | apply gd_split)) <;> (intro hc; (try simp only [hcn] at hc); (try simp only [hc]); (try simp only [hcl] at hc); try omega))
    subst hQ
    exact no (w := ⟨[], false, []⟩) (k := 0) (past t2) en
  · have en : tkP s = none := by unfold tkP; rw [e1]; rfl
    repeat' (first
      | refine St.h ?_
      | simp (disch := first | omega | (simp only [lnv]; omega)) only [wlk, ↓get_put', ↓reduceIte, seval, e1, triT, hz1]
      | (with_reducible (first | apply cd_split | apply gd_split)) <;> (intro hc; (try simp only [hcn] at hc); (try simp only [hc]); (try simp only [hcl] at hc); try omega))
    refine ST.all o1 rfl rfl (by simp) (by simp) fun g2 o2 t2 => ?_
    repeat' (first
      | refine St.h ?_
      | simp (disch := first | omega | (simp only [lnv]; omega)) only [wlk, ↓get_put', ↓reduceIte, seval, o2.row.ln, o2.ra3]
      | (with_reducible (first | apply cd_split | apply gd_split)) <;> (intro hc; (try simp only [hcn] at hc); (try simp only [hc]); (try simp only [hcl] at hc); try omega))
    subst hQ
    exact no (w := ⟨[], false, []⟩) (k := 0) (past t2) en
  by_cases hqe : q = s.length
  · have en : tkP s = none := by unfold tkP; rw [e1, if_pos (Or.inr (by show (q : Int) = (s.length : Int); omega))]
    have hq : ((q : Int) = (s.length : Int)) = True := eq_true (by omega)
    repeat' (first
      | refine St.h ?_
      | simp (disch := first | omega | (simp only [lnv]; omega)) only [wlk, ↓get_put', ↓reduceIte, seval, e1, triT, hq]
      | (with_reducible (first | apply cd_split | apply gd_split)) <;> (intro hc; (try simp only [hcn] at hc); (try simp only [hc]); (try simp only [hcl] at hc); try omega))
    refine ST.all o1 rfl rfl (by simp) (by simp) fun g2 o2 t2 => ?_
    repeat' (first
      | refine St.h ?_
      | simp (disch := first | omega | (simp only [lnv]; omega)) only [wlk, ↓get_put', ↓reduceIte, seval, o2.row.ln, o2.ra3]
      | (with_reducible (first | apply cd_split | apply gd_split)) <;> (intro hc; (try simp only [hcn] at hc); (try simp only [hc]); (try simp only [hcl] at hc); try omega))
    subst hQ
    exact no (w := ⟨[], false, []⟩) (k := 0) (past t2) en
  have hq : ((q : Int) = (s.length : Int)) = False := eq_false (by omega)
  have eq1 : (q : Int).toNat = q := by omega
  have hb := (s.getD q 0).toNat_lt
  have eq2 : ((q : Int) + 1).toNat = q + 1 := by omega
  have hdl : (s.drop (q + 1)).length = s.length - (q + 1) := List.length_drop
  have hT : tkP s = if s.getD q 0 = 0 then
    (if (takeT (s.drop (q + 1))).2.2 ≠ 0 then none else some (⟨x, false, (takeT (s.drop (q + 1))).1⟩, q + 1 + (takeT (s.drop (q + 1))).2.1.toNat))
    else if s.getD q 0 = 1 then some (⟨x, true, []⟩, q + 1) else none := by
    unfold tkP
    rw [e1]
    show (if (0 : Int) ≠ 0 ∨ (q : Int) = (s.length : Int) then none else _) = _
    rw [if_neg (by omega), eq1]
  by_cases c0 : s.getD q 0 = 0
  · have d0 : (((s.getD q 0).toNat : Int) = 0) = True := eq_true (by rw [c0]; rfl)
    rw [if_pos c0] at hT
    repeat' (first
      | refine St.h ?_
      | simp (disch := first | omega | (simp only [lnv]; omega)) only [wlk, ↓get_put', ↓reduceIte, seval, e1, triT, hq, d0, eq2]
      | (with_reducible (first | apply cd_split | apply gd_split)) <;> (intro hc; (try simp only [hcn] at hc); (try simp only [hc]); (try simp only [hcl] at hc); try omega))
    refine CL.pure (takeText_ok (by omega)) ?_
    rcases takeT_range (s.drop (q + 1)) with (e2 | e2) | ⟨x2, r, e2, r1, r2, r3⟩
    · have en : tkP s = none := by rw [hT, e2]; rfl
      repeat' (first
        | refine St.h ?_
        | simp (disch := first | omega | (simp only [lnv]; omega)) only [wlk, ↓get_put', ↓reduceIte, seval, e2, triT, hz0]
        | (with_reducible (first | apply cd_split | apply gd_split)) <;> (intro hc; (try simp only [hcn] at hc); (try simp only [hc]); (try simp only [hcl] at hc); try omega))
      refine ST.all o1 rfl rfl (by simp) (by simp) fun g2 o2 t2 => ?_
      repeat' (first
        | refine St.h ?_
        | simp (disch := first | omega | (simp only [lnv]; omega)) only [wlk, ↓get_put', ↓reduceIte, seval, o2.row.ln, o2.ra3]
        | (with_reducible (first | apply cd_split | apply gd_split)) <;> (intro hc; (try simp only [hcn] at hc); (try simp only [hc]); (try simp only [hcl] at hc); try omega))
      subst hQ
      exact no (w := ⟨x, false, []⟩) (k := q + 1) (past t2) en
    · have en : tkP s = none := by rw [hT, e2]; rfl
      repeat' (first
        | refine St.h ?_
        | simp (disch := first | omega | (simp only [lnv]; omega)) only [wlk, ↓get_put', ↓reduceIte, seval, e2, triT, hz1]
        | (with_reducible (first | apply cd_split | apply gd_split)) <;> (intro hc; (try simp only [hcn] at hc); (try simp only [hc]); (try simp only [hcl] at hc); try omega))
      refine ST.all o1 rfl rfl (by simp) (by simp) fun g2 o2 t2 => ?_
      repeat' (first
        | refine St.h ?_
        | simp (disch := first | omega | (simp only [lnv]; omega)) only [wlk, ↓get_put', ↓reduceIte, seval, o2.row.ln, o2.ra3]
        | (with_reducible (first | apply cd_split | apply gd_split)) <;> (intro hc; (try simp only [hcn] at hc); (try simp only [hc]); (try simp only [hcl] at hc); try omega))
      subst hQ
      exact no (w := ⟨x, false, []⟩) (k := q + 1) (past t2) en
    · have er : (r : Int).toNat = r := by omega
      have en : tkP s = some (⟨x, false, x2⟩, q + 1 + r) := by
        rw [hT, e2]
        show (if (0 : Int) ≠ 0 then none else some ((⟨x, false, x2⟩ : Wri), q + 1 + (r : Int).toNat)) = _
        rw [if_neg (by omega), er]
      repeat' (first
        | refine St.h ?_
        | simp (disch := first | omega | (simp only [lnv]; omega)) only [wlk, ↓get_put', ↓reduceIte, seval, e2, triT]
        | (with_reducible (first | apply cd_split | apply gd_split)) <;> (intro hc; (try simp only [hcn] at hc); (try simp only [hc]); (try simp only [hcl] at hc); try omega))
      refine ST.all o1 rfl rfl (by simp) (by simp) fun g2 o2 t2 => ?_
      repeat' (first
        | refine St.h ?_
        | simp (disch := first | omega | (simp only [lnv]; omega)) only [wlk, ↓get_put', ↓reduceIte, seval, o2.row.ln, o2.ra3]
        | (with_reducible (first | apply cd_split | apply gd_split)) <;> (intro hc; (try simp only [hcn] at hc); (try simp only [hc]); (try simp only [hcl] at hc); try omega))
      subst hQ
      refine ⟨⟨x, false, x2⟩, q + 1 + r, true, rfl, past t2, (fun h => by cases h), fun _ => ⟨en, by omega, by omega⟩⟩
  have d0 : (((s.getD q 0).toNat : Int) = 0) = False := eq_false fun e => c0 (by apply UInt8.toNat_inj.1; show (s.getD q 0).toNat = 0; omega)
  rw [if_neg c0] at hT
  by_cases c1 : s.getD q 0 = 1
  · have d1 : (((s.getD q 0).toNat : Int) = 1) = True := eq_true (by rw [c1]; rfl)
    rw [if_pos c1] at hT
    repeat' (first
      | refine St.h ?_
      | simp (disch := first | omega | (simp only [lnv]; omega)) only [wlk, ↓get_put', ↓reduceIte, seval, e1, triT, hq, d0, d1, eq2]
      | (with_reducible (first | apply cd_split | apply gd_split)) <;> (intro hc; (try simp only [hcn] at hc); (try simp only [hc]); (try simp only [hcl] at hc); try omega))
    refine ST.all o1 rfl rfl (by simp) (by simp) fun g2 o2 t2 => ?_
    repeat' (first
      | refine St.h ?_
      | simp (disch := first | omega | (simp only [lnv]; omega)) only [wlk, ↓get_put', ↓reduceIte, seval, o2.row.ln, o2.ra3]
      | (with_reducible (first | apply cd_split | apply gd_split)) <;> (intro hc; (try simp only [hcn] at hc); (try simp only [hc]); (try simp only [hcl] at hc); try omega))
    subst hQ
    refine ⟨⟨x, true, []⟩, q + 1, true, rfl, past t2, (fun h => by cases h), fun _ => ⟨hT, by omega, by omega⟩⟩
  · have d1 : (((s.getD q 0).toNat : Int) = 1) = False := eq_false fun e => c1 (by apply UInt8.toNat_inj.1; show (s.getD q 0).toNat = 1; omega)
    rw [if_neg c1] at hT
    repeat' (first
      | refine St.h ?_
      | simp (disch := first | omega | (simp only [lnv]; omega)) only [wlk, ↓get_put', ↓reduceIte, seval, e1, triT, hq, d0, d1, eq2]
      | (with_reducible (first | apply cd_split | apply gd_split)) <;> (intro hc; (try simp only [hcn] at hc); (try simp only [hc]); (try simp only [hcl] at hc); try omega))
    refine ST.all o1 rfl rfl (by simp) (by simp) fun g2 o2 t2 => ?_
    repeat' (first
      | refine St.h ?_
      | simp (disch := first | omega | (simp only [lnv]; omega)) only [wlk, ↓get_put', ↓reduceIte, seval, o2.row.ln, o2.ra3]
      | (with_reducible (first | apply cd_split | apply gd_split)) <;> (intro hc; (try simp only [hcn] at hc); (try simp only [hc]); (try simp only [hcl] at hc); try omega))
    subst hQ
    exact no (w := ⟨[], false, []⟩) (k := 0) (past t2) hT
theorem btakeAll_ok {h : H} {s : List UInt8} (hs : s.length ≤ 1000000) (hf : B.val h.floor ≤ B.val h.next) : FnOk Try.prog 32 [sv s] h fun y h' => ∃ u, y = .tu [.i .i64 (taP s).1, u] ∧ Ws h' u (taP s).2 ∧ Stay nowhere h h' := by
  refine fn_go c32 (by intro hb; cases hb) (by simp) (by simp) fun Q hQ => ?_
  simp only [slotsF, Nat.reduceAdd]
  repeat' (first
    | refine St.h ?_
    | simp (disch := first | omega | (simp only [lnv]; omega)) only [wlk, ↓get_put', ↓reduceIte, seval]
    | (with_reducible (first | apply cd_split | apply gd_split)) <;> (intro hc; (try simp only [hcn] at hc); (try simp only [hc]); (try simp only [hcl] at hc); try omega))
  refine CL.pure (takeNum_ok hs) ?_
  have hz0 : ((10 : Int) = 0) = False := eq_false (by decide)
  have hz1 : ((12 : Int) = 0) = False := eq_false (by decide)
  have no : ∀ {g : H}, Stay nowhere h g → taP s = (0, []) → ∃ u, V.tu [.i .i64 0, .l0] = .tu [.i .i64 (taP s).1, u] ∧ Ws g u (taP s).2 ∧ Stay nowhere h g := fun {g} st e => by
    rw [e]; exact ⟨.l0, rfl, Ss.nil, st⟩
  rcases takeN_range s with (e1 | e1) | ⟨z, q, e1, z1, q1, q2, q3⟩
  · have en : taP s = (0, []) := by unfold taP; rw [e1]; rfl
    repeat' (first
      | refine St.h ?_
      | simp (disch := first | omega | (simp only [lnv]; omega)) only [wlk, ↓get_put', ↓reduceIte, seval, e1, tri, hz0]
      | (with_reducible (first | apply cd_split | apply gd_split)) <;> (intro hc; (try simp only [hcn] at hc); (try simp only [hc]); (try simp only [hcl] at hc); try omega))
    subst hQ
    exact no (Stay.refl _ _) en
  · have en : taP s = (0, []) := by unfold taP; rw [e1]; rfl
    repeat' (first
      | refine St.h ?_
      | simp (disch := first | omega | (simp only [lnv]; omega)) only [wlk, ↓get_put', ↓reduceIte, seval, e1, tri, hz1]
      | (with_reducible (first | apply cd_split | apply gd_split)) <;> (intro hc; (try simp only [hcn] at hc); (try simp only [hc]); (try simp only [hcl] at hc); try omega))
    subst hQ
    exact no (Stay.refl _ _) en
  have eq1 : (q : Int).toNat = q := by omega
  have hdl : (s.drop q).length = s.length - q := List.length_drop
  have hT : taP s = if (takeN (s.drop q)).2.2 ≠ 0 ∨ 8 < (takeN (s.drop q)).1 then ((0 : Int), ([] : List Wri)) else match tksP (takeN (s.drop q)).1.toNat ((s.drop q).drop (takeN (s.drop q)).2.1.toNat) with | none => ((0 : Int), ([] : List Wri)) | some l => ((z : Int), l) := by
    unfold taP
    rw [e1]
    show (if (0 : Int) ≠ 0 then _ else _ : Int × List Wri) = _
    rw [if_neg (by omega), eq1]; rfl
  repeat' (first
    | refine St.h ?_
    | simp (disch := first | omega | (simp only [lnv]; omega)) only [wlk, ↓get_put', ↓reduceIte, seval, e1, tri, eq1]
    | (with_reducible (first | apply cd_split | apply gd_split)) <;> (intro hc; (try simp only [hcn] at hc); (try simp only [hc]); (try simp only [hcl] at hc); try omega))
  refine CL.pure (takeNum_ok (by omega)) ?_
  rcases takeN_range (s.drop q) with (e2 | e2) | ⟨n, k, e2, n1, k1, k2, k3⟩
  · have en : taP s = (0, []) := by rw [hT, e2]; rfl
    repeat' (first
      | refine St.h ?_
      | simp (disch := first | omega | (simp only [lnv]; omega)) only [wlk, ↓get_put', ↓reduceIte, seval, e2, tri, hz0]
      | (with_reducible (first | apply cd_split | apply gd_split)) <;> (intro hc; (try simp only [hcn] at hc); (try simp only [hc]); (try simp only [hcl] at hc); try omega))
    subst hQ
    exact no (Stay.refl _ _) en
  · have en : taP s = (0, []) := by rw [hT, e2]; rfl
    repeat' (first
      | refine St.h ?_
      | simp (disch := first | omega | (simp only [lnv]; omega)) only [wlk, ↓get_put', ↓reduceIte, seval, e2, tri, hz1]
      | (with_reducible (first | apply cd_split | apply gd_split)) <;> (intro hc; (try simp only [hcn] at hc); (try simp only [hc]); (try simp only [hcl] at hc); try omega))
    subst hQ
    exact no (Stay.refl _ _) en
  rw [hdl] at k3
  have ek : (k : Int).toNat = k := by omega
  have en' : (n : Int).toNat = n := by omega
  have hdd : (s.drop q).drop k = s.drop (q + k) := by rw [List.drop_drop]
  by_cases h8 : 8 < n
  · have en : taP s = (0, []) := by rw [hT, e2, if_pos (Or.inr (by show (8 : Int) < (n : Int); omega))]
    have hc8 : ((8 : Int) < (n : Int)) = True := eq_true (by omega)
    repeat' (first
      | refine St.h ?_
      | simp (disch := first | omega | (simp only [lnv]; omega)) only [wlk, ↓get_put', ↓reduceIte, seval, e2, tri, hc8]
      | (with_reducible (first | apply cd_split | apply gd_split)) <;> (intro hc; (try simp only [hcn] at hc); (try simp only [hc]); (try simp only [hcl] at hc); try omega))
    subst hQ
    exact no (Stay.refl _ _) en
  have hT : taP s = match tksP n (s.drop (q + k)) with | none => ((0 : Int), ([] : List Wri)) | some l => ((z : Int), l) := by
    rw [hT, e2]
    show (if (0 : Int) ≠ 0 ∨ (8 : Int) < (n : Int) then _ else _ : Int × List Wri) = _
    rw [if_neg (by omega), en', ek, hdd]
  have hc8 : ((8 : Int) < (n : Int)) = False := eq_false (by omega)
  repeat' (first
    | refine St.h ?_
    | simp (disch := first | omega | (simp only [lnv]; omega)) only [wlk, ↓get_put', ↓reduceIte, seval, e2, tri, hc8]
    | (with_reducible (first | apply cd_split | apply gd_split)) <;> (intro hc; (try simp only [hcn] at hc); (try simp only [hc]); (try simp only [hcl] at hc); try omega))
  refine Ok.lp (fun m t g => ∃ (j a : Nat) (u : V) (M : List Wri), m = n - j ∧ j ≤ n ∧ a ≤ s.length ∧ M.length = j ∧ tksP n (s.drop (q + k)) = (tksP (n - j) (s.drop a)).map (fun r => M ++ r) ∧ get 0 t = sv s ∧ get 4 t = .i .i64 (z : Int) ∧ get 5 t = .i .i64 (a : Int) ∧ get 9 t = u ∧ get 38 t = .i .i64 (n : Int) ∧ get 39 t = .i .i64 (j : Int) ∧ Buf g 49 3 u (M.flatMap wriC) ∧ (∀ q, isOf u q → B.val h.next ≤ B.val q) ∧ Stay nowhere h g) n ?_ ?_
  · simp (disch := first | omega | (simp only [lnv]; omega)) only [wlk, ↓get_put', ↓reduceIte, seval]
    refine ⟨0, q + k, .l0, [], by omega, by omega, by omega, rfl, ?_, ?_, ?_, ?_, ?_, ?_, ?_, Buf.nil _ _ _, ?_, Stay.refl _ _⟩
    rotate_right
    · rintro i ⟨_, _, _, _, _, e⟩; cases e
    · rw [Nat.sub_zero]; cases tksP n (s.drop (q + k)) <;> simp
    all_goals first | trivial | rfl
  rintro I hI m t g ⟨j, a, u, M, rfl, hj, ha, hM, hR, f0, f4, f5, f9, f38, f39, bf, own, st⟩
  have hfg := st.fl hf
  by_cases hjn : j < n
  case neg =>
    obtain rfl : j = n := by omega
    have d1 : ((j : Int) < (j : Int)) = False := eq_false (by omega)
    rw [Nat.sub_self] at hR
    have e3 : taP s = ((z : Int), M) := by rw [hT, hR]; simp [tksP]
    repeat' (first
      | refine St.h ?_
      | simp (disch := first | omega | (simp only [lnv]; omega)) only [wlk, ↓get_put', ↓reduceIte, seval, f0, f4, f5, f9, f38, f39, d1]
      | (with_reducible (first | apply cd_split | apply gd_split)) <;> (intro hc; (try simp only [hcn] at hc); (try simp only [hc]); (try simp only [hcl] at hc); try omega))
    subst hQ
    rw [e3]
    exact ⟨u, rfl, Ss.buf bf rfl wriC_len (by omega), st⟩
  have d1 : ((j : Int) < (n : Int)) = True := eq_true (by omega)
  obtain ⟨d, hd⟩ : ∃ d, n - j = d + 1 := ⟨n - j - 1, by omega⟩
  rw [hd] at hR
  have hal : (s.drop a).length = s.length - a := List.length_drop
  have hR2 : tksP (d + 1) (s.drop a) = (tkP (s.drop a)).bind fun r => (tksP d ((s.drop a).drop r.2)).map (r.1 :: ·) := rfl
  repeat' (first
    | refine St.h ?_
    | simp (disch := first | omega | (simp only [lnv]; omega)) only [wlk, ↓get_put', ↓reduceIte, seval, f0, f4, f5, f9, f38, f39, d1, Int.toNat_natCast]
    | (with_reducible (first | apply cd_split | apply gd_split)) <;> (intro hc; (try simp only [hcn] at hc); (try simp only [hc]); (try simp only [hcl] at hc); try omega))
  refine CL.mk (btake_ok (s := s.drop a) (by omega) hfg) ?_
  rintro _ g1 ⟨w, c, b, rfl, t1, hno, hyes⟩
  have hf1 := t1.fl hfg
  have st1 := st.trans t1
  unfold wriC
  repeat' (first
    | refine St.h ?_
    | simp (disch := first | omega | (simp only [lnv]; omega)) only [wlk, ↓get_put', ↓reduceIte, seval, f0, f4, f5, f9, f38, f39]
    | (with_reducible (first | apply cd_split | apply gd_split)) <;> (intro hc; (try simp only [hcn] at hc); (try simp only [hc]); (try simp only [hcl] at hc); try omega))
  refine AL.own (by simp) hf1 fun g2 t2 _ o2 => ?_
  have hf2 := t2.fl hf1
  repeat' (first
    | refine St.h ?_
    | simp (disch := first | omega | (simp only [lnv]; omega)) only [wlk, ↓get_put', ↓reduceIte, seval, f0, f4, f5, f9, f38, f39]
    | (with_reducible (first | apply cd_split | apply gd_split)) <;> (intro hc; (try simp only [hcn] at hc); (try simp only [hc]); (try simp only [hcl] at hc); try omega))
  refine ST.all o2 rfl rfl (by simp) (by simp) fun g3 o3 t3 => ?_
  have hf3 := t3.fl hf2
  have t13 : Stay nowhere g1 g3 := t2.past' t3 fun q hq => by rw [hq]; exact Nat.le_refl _
  have st3 := st1.trans t13
  have b3 := bf.grow (t1.trans t13)
  cases b with
  | false =>
    have en : taP s = (0, []) := by rw [hT, hR, hR2, hno rfl]; rfl
    repeat' (first
      | refine St.h ?_
      | simp (disch := first | omega | (simp only [lnv]; omega)) only [wlk, ↓get_put', ↓reduceIte, seval, f0, f4, f5, f9, f38, f39]
      | (with_reducible (first | apply cd_split | apply gd_split)) <;> (intro hc; (try simp only [hcn] at hc); (try simp only [hc]); (try simp only [hcl] at hc); try omega))
    subst hQ
    exact no st3 en
  | true =>
    obtain ⟨y1, y2, y3⟩ := hyes rfl
    rw [hal] at y3
    have hdd2 : (s.drop a).drop c = s.drop (a + c) := by rw [List.drop_drop]
    rw [y1] at hR2
    have hR2 : tksP (d + 1) (s.drop a) = (tksP d (s.drop (a + c))).map (w :: ·) := by rw [hR2]; show ((tksP d ((s.drop a).drop c)).map (w :: ·)) = _; rw [hdd2]
    repeat' (first
      | refine St.h ?_
      | simp (disch := first | omega | (simp only [lnv]; omega)) only [wlk, ↓get_put', ↓reduceIte, seval, f0, f4, f5, f9, f38, f39, o3.row.ln]
      | (with_reducible (first | apply cd_split | apply gd_split)) <;> (intro hc; (try simp only [hcn] at hc); (try simp only [hc]); (try simp only [hcl] at hc); try omega))
    refine AL.own (by simp) hf3 fun g4 t4 _ o4 => ?_
    repeat' (first
      | refine St.h ?_
      | simp (disch := first | omega | (simp only [lnv]; omega)) only [wlk, ↓get_put', ↓reduceIte, seval, f0, f4, f5, f9, f38, f39]
      | (with_reducible (first | apply cd_split | apply gd_split)) <;> (intro hc; (try simp only [hcn] at hc); (try simp only [hc]); (try simp only [hcl] at hc); try omega))
    refine push_w (x := w) (b3.grow t4) o4 (by omega) (t4.fl hf3) fun u2 g5 b5 t5 ho => ?_
    have n5 := (st3.trans t4).next
    repeat' (first
      | refine St.h ?_
      | simp (disch := first | omega | (simp only [lnv]; omega)) only [wlk, ↓get_put', ↓reduceIte, seval, f0, f4, f5, f9, f38, f39]
      | (with_reducible (first | apply cd_split | apply gd_split)) <;> (intro hc; (try simp only [hcn] at hc); (try simp only [hc]); (try simp only [hcl] at hc); try omega))
    refine lp_next hI (n - (j + 1)) (by omega) ⟨j + 1, a + c, u2, M ++ [w], rfl, by omega, by omega, by rw [List.length_append, hM]; rfl, ?_, by simp (disch := first | omega | (simp only [lnv]; omega)) only [wlk, ↓get_put', ↓reduceIte, seval, f0], by simp (disch := first | omega | (simp only [lnv]; omega)) only [wlk, ↓get_put', ↓reduceIte, seval, f4], by simp (disch := first | omega | (simp only [lnv]; omega)) only [wlk, ↓get_put', ↓reduceIte, seval, f5]; rfl, by simp (disch := first | omega | (simp only [lnv]; omega)) only [wlk, ↓get_put', ↓reduceIte, seval], by simp (disch := first | omega | (simp only [lnv]; omega)) only [wlk, ↓get_put', ↓reduceIte, seval, f38], by simp (disch := first | omega | (simp only [lnv]; omega)) only [wlk, ↓get_put', ↓reduceIte, seval, f39]; rfl, b5, fun i hi => ?_, (st3.trans t4).past' t5 fun q hq => own q hq⟩
    · rw [hR, hR2, show n - (j + 1) = d by omega]
      cases tksP d (s.drop (a + c)) <;> simp
    · rcases ho i hi with h3 | h3
      · exact own i h3
      · omega
theorem bread_ok12 {h : H} {s : List UInt8} (hs : s.length ≤ 100000) (hf : B.val h.floor ≤ B.val h.next) : FnOk Try.prog 11 [sv s] h fun y h' => ∃ u, y = rdV u (readR s) ∧ Ws h' u (readR s).2.1 ∧ Stay nowhere h h' := by
  refine fn_go c11 (by intro hb; cases hb) (by simp) (by simp) fun Q hQ => ?_
  simp only [slotsF, Nat.reduceAdd]
  repeat' (first
    | refine St.h ?_
    | simp (disch := first | omega | (simp only [lnv]; omega)) only [wlk, ↓get_put', ↓reduceIte, seval]
    | (with_reducible (first | apply cd_split | apply gd_split)) <;> (intro hc; (try simp only [hcn] at hc); (try simp only [hc]); (try simp only [hcl] at hc); try omega))
  refine CL.stay (open_ok (by omega) hf) fun h1 s1 => ?_
  have hf1 := s1.fl hf
  have hend : ∀ {g : H} (e : Int), Stay nowhere h g → readR s = (0, [], 0, e) → ∃ u, V.tu [.i .i64 0, .l0, .i .i64 0, .i .i64 e] = rdV u (readR s) ∧ Ws g u (readR s).2.1 ∧ Stay nowhere h g := fun {g} e st e1 => by
    rw [e1]
    exact ⟨.l0, rfl, Ss.nil, st⟩
  have hz1 : ((12 : Int) = 0) = False := eq_false (by decide)
  have hz2 : ((13 : Int) = 0) = False := eq_false (by decide)
  rcases openB_range s with e | e | ⟨x, n, e, n1, n2, n3⟩
  · have e0 : readR s = (0, [], 0, 12) := by unfold readR; rw [e]; rfl
    repeat' (first
      | refine St.h ?_
      | simp (disch := first | omega | (simp only [lnv]; omega)) only [wlk, ↓get_put', ↓reduceIte, seval, opn, e, hz1]
      | (with_reducible (first | apply cd_split | apply gd_split)) <;> (intro hc; (try simp only [hcn] at hc); (try simp only [hc]); (try simp only [hcl] at hc); try omega))
    subst hQ
    exact hend 12 s1 e0
  · have e0 : readR s = (0, [], 0, 13) := by unfold readR; rw [e]; rfl
    repeat' (first
      | refine St.h ?_
      | simp (disch := first | omega | (simp only [lnv]; omega)) only [wlk, ↓get_put', ↓reduceIte, seval, opn, e, hz2]
      | (with_reducible (first | apply cd_split | apply gd_split)) <;> (intro hc; (try simp only [hcn] at hc); (try simp only [hc]); (try simp only [hcl] at hc); try omega))
    subst hQ
    exact hend 13 s1 e0
  have hR := readP (by omega) e
  obtain ⟨i1, i2⟩ := taP_int x
  have i3 := taP_len x
  repeat' (first
    | refine St.h ?_
    | simp (disch := first | omega | (simp only [lnv]; omega)) only [wlk, ↓get_put', ↓reduceIte, seval, opn, e]
    | (with_reducible (first | apply cd_split | apply gd_split)) <;> (intro hc; (try simp only [hcn] at hc); (try simp only [hc]); (try simp only [hcl] at hc); try omega))
  refine CL.mk (btakeAll_ok (by omega) hf1) ?_
  rintro _ h2 ⟨u, rfl, hu, s2⟩
  have hf2 := s2.fl hf1
  have s02 := s1.trans s2
  repeat' (first
    | refine St.h ?_
    | simp (disch := first | omega | (simp only [lnv]; omega)) only [wlk, ↓get_put', ↓reduceIte, seval]
    | (with_reducible (first | apply cd_split | apply gd_split)) <;> (intro hc; (try simp only [hcn] at hc); (try simp only [hc]); (try simp only [hcl] at hc); try omega))
  refine CL.stay (bbytes_ok (seq := (taP x).1) hu (by omega) (by omega) (by omega) hf2) fun h3 s3 => ?_
  have s03 := s02.trans s3
  by_cases hc : (bytB (taP x).1 (taP x).2).1 = s.take n
  · have hcd : decide ((bytB (taP x).1 (taP x).2).1 = s.take n) = true := decide_eq_true hc
    rw [if_pos hc] at hR
    repeat' (first
      | refine St.h ?_
      | simp (disch := first | omega | (simp only [lnv]; omega)) only [wlk, ↓get_put', ↓reduceIte, seval, hc, hcd, Int.toNat_natCast]
      | (with_reducible (first | apply cd_split | apply gd_split)) <;> (intro hc; (try simp only [hcn] at hc); (try simp only [hc]); (try simp only [hcl] at hc); try omega))
    subst hQ
    rw [hR]
    exact ⟨u, rfl, hu.grow s3, s03⟩
  · have hcd : decide ((bytB (taP x).1 (taP x).2).1 = s.take n) = false := decide_eq_false hc
    rw [if_neg hc] at hR
    repeat' (first
      | refine St.h ?_
      | simp (disch := first | omega | (simp only [lnv]; omega)) only [wlk, ↓get_put', ↓reduceIte, seval, hcd, Int.toNat_natCast]
      | (with_reducible (first | apply cd_split | apply gd_split)) <;> (intro hc; (try simp only [hcn] at hc); (try simp only [hc]); (try simp only [hcl] at hc); try omega))
    subst hQ
    exact hend 10 s03 hR
theorem bentries_okO {h : H} {v : V} {seq : Int} {L : List Wri} (hL : Ws h v L) (hl : L.length ≤ 10000) (hf : B.val h.floor ≤ B.val h.next) : FnOk Try.prog 21 [.i .i64 seq, v] h fun y h' => Es h' y (entB seq L) ∧ SwN 4 y ∧ (∀ q, isOf y q → B.val h.next ≤ B.val q) ∧ Stay nowhere h h' := by
  refine fn_go c21 (by intro hb; cases hb) (by simp) (by simp) fun Q hQ => ?_
  simp only [slotsF, Nat.reduceAdd]
  repeat' (first
    | refine St.h ?_
    | simp (disch := first | omega | (simp only [lnv]; omega)) only [wlk, ↓get_put', ↓reduceIte, seval]
    | (with_reducible (first | apply cd_split | apply gd_split)) <;> (intro hc; (try simp only [hcn] at hc); (try simp only [hc]); (try simp only [hcl] at hc); try omega))
  refine CL.stay (bis_ok hL hl hf) fun h1 s1 => ?_
  have hf1 := s1.fl hf
  have hL1 := hL.grow s1
  cases hB : isB L with
  | false =>
    have hE : entB seq L = [] := by unfold entB; rw [hB]; rfl
    repeat' (first
      | refine St.h ?_
      | simp (disch := first | omega | (simp only [lnv]; omega)) only [wlk, ↓get_put', ↓reduceIte, seval]
      | (with_reducible (first | apply cd_split | apply gd_split)) <;> (intro hc; (try simp only [hcn] at hc); (try simp only [hc]); (try simp only [hcl] at hc); try omega))
    subst hQ
    rw [hE]
    refine ⟨Ss.nil, .inl rfl, ?_, s1⟩
    rintro i ⟨_, _, _, _, _, e⟩; cases e
  | true =>
  have hE : entB seq L = L.map fun w => (⟨w.key, seq, w.del, w.val⟩ : Ent) := by unfold entB; rw [hB]; rfl
  repeat' (first
    | refine St.h ?_
    | simp (disch := first | omega | (simp only [lnv]; omega)) only [wlk, ↓get_put', ↓reduceIte, seval, hL1.ln]
    | (with_reducible (first | apply cd_split | apply gd_split)) <;> (intro hc; (try simp only [hcn] at hc); (try simp only [hc]); (try simp only [hcl] at hc); try omega))
  refine Ok.lp (fun m t g => ∃ (j : Nat) (u : V), m = L.length - j ∧ j ≤ L.length ∧ get 0 t = .i .i64 seq ∧ get 5 t = u ∧ get 11 t = v ∧ get 12 t = .i .i64 (L.length : Int) ∧ get 13 t = .i .i64 (j : Int) ∧ Buf g 79 4 u (((L.take j).map fun w => (⟨w.key, seq, w.del, w.val⟩ : Ent)).flatMap entC) ∧ (∀ q, isOf u q → B.val h.next ≤ B.val q) ∧ Stay nowhere h g) L.length ?_ ?_
  · simp (disch := first | omega | (simp only [lnv]; omega)) only [wlk, ↓get_put', ↓reduceIte, seval]
    refine ⟨0, .l0, by omega, by omega, ?_, ?_, ?_, ?_, ?_, Buf.nil _ _ _, ?_, s1⟩
    rotate_right
    · rintro i ⟨_, _, _, _, _, e⟩; cases e
    all_goals first | trivial | rfl
  rintro I hI m t g ⟨j, u, rfl, hj, f0, f5, f11, f12, f13, bf, own, st⟩
  have hLg := hL.grow st
  have hfg := st.fl hf
  by_cases hjl : j < L.length
  case neg =>
    obtain rfl : j = L.length := by omega
    rw [List.take_length] at bf
    have d1 : ((L.length : Int) < (L.length : Int)) = False := eq_false (by omega)
    repeat' (first
      | refine St.h ?_
      | simp (disch := first | omega | (simp only [lnv]; omega)) only [wlk, ↓get_put', ↓reduceIte, seval, f0, f5, f11, f12, f13, d1]
      | (with_reducible (first | apply cd_split | apply gd_split)) <;> (intro hc; (try simp only [hcn] at hc); (try simp only [hc]); (try simp only [hcl] at hc); try omega))
    subst hQ
    rw [hE]
    exact ⟨Ss.buf bf rfl entC_len (by omega), swn_buf12 bf, own, st⟩
  have d1 : ((j : Int) < (L.length : Int)) = True := eq_true (by omega)
  repeat' (first
    | refine St.h ?_
    | simp (disch := first | omega | (simp only [lnv]; omega)) only [wlk, ↓get_put', ↓reduceIte, seval, f0, f5, f11, f12, f13, d1, hLg.ix, hLg.la, Int.toNat_natCast]
    | (with_reducible (first | apply cd_split | apply gd_split)) <;> (intro hc; (try simp only [hcn] at hc); (try simp only [hc]); (try simp only [hcl] at hc); try omega))
  refine AL.own (by simp) hfg fun g1 t1 _ o1 => ?_
  have hf1' := t1.fl hfg
  repeat' (first
    | refine St.h ?_
    | simp (disch := first | omega | (simp only [lnv]; omega)) only [wlk, ↓get_put', ↓reduceIte, seval, f0, f5, f11, f12, f13]
    | (with_reducible (first | apply cd_split | apply gd_split)) <;> (intro hc; (try simp only [hcn] at hc); (try simp only [hc]); (try simp only [hcl] at hc); try omega))
  refine ST.all o1 rfl rfl (by simp) (by simp) fun g2 o2 t2 => ?_
  have hf2' := t2.fl hf1'
  have tt : Stay nowhere g g2 := t1.past' t2 fun q hq => by rw [hq]; exact Nat.le_refl _
  have r2 := o2.row
  repeat' (first
    | refine St.h ?_
    | simp (disch := first | omega | (simp only [lnv]; omega)) only [wlk, ↓get_put', ↓reduceIte, seval, f0, f5, f11, f12, f13, r2.l1]
    | (with_reducible (first | apply cd_split | apply gd_split)) <;> (intro hc; (try simp only [hcn] at hc); (try simp only [hc]); (try simp only [hcl] at hc); try omega))
  refine AL.own (by simp) hf2' fun g3 t3 _ q3 => ?_
  have b3 := bf.grow (tt.trans t3)
  repeat' (first
    | refine St.h ?_
    | simp (disch := first | omega | (simp only [lnv]; omega)) only [wlk, ↓get_put', ↓reduceIte, seval, f0, f5, f11, f12, f13]
    | (with_reducible (first | apply cd_split | apply gd_split)) <;> (intro hc; (try simp only [hcn] at hc); (try simp only [hc]); (try simp only [hcl] at hc); try omega))
  have hfl : (((L.take j).map fun w => (⟨w.key, seq, w.del, w.val⟩ : Ent)).flatMap entC).length = j * 4 := by rw [fm_len entC_len]; simp; omega
  refine AP.buf (vs := entC ⟨(L.getD j default).key, seq, (L.getD j default).del, (L.getD j default).val⟩) (cnt := 1) b3 (new_row q3.row rfl (Nat.le_refl _) (by omega) (by show 4 ≤ 4; omega)) (t3.fl hf2') (by omega) rfl rfl (by rw [hfl]; show j * 4 + 4 ≤ 1048576; omega) fun u2 g4 b4 t4 ho _ => ?_
  repeat' (first
    | refine St.h ?_
    | simp (disch := first | omega | (simp only [lnv]; omega)) only [wlk, ↓get_put', ↓reduceIte, seval, f0, f5, f11, f12, f13]
    | (with_reducible (first | apply cd_split | apply gd_split)) <;> (intro hc; (try simp only [hcn] at hc); (try simp only [hc]); (try simp only [hcl] at hc); try omega))
  have n2 := ((st.trans tt).trans t3).next
  refine lp_next hI (L.length - (j + 1)) (by omega) ⟨j + 1, u2, rfl, by omega, by simp (disch := first | omega | (simp only [lnv]; omega)) only [wlk, ↓get_put', ↓reduceIte, seval, f0], by simp (disch := first | omega | (simp only [lnv]; omega)) only [wlk, ↓get_put', ↓reduceIte, seval], by simp (disch := first | omega | (simp only [lnv]; omega)) only [wlk, ↓get_put', ↓reduceIte, seval, f11], by simp (disch := first | omega | (simp only [lnv]; omega)) only [wlk, ↓get_put', ↓reduceIte, seval, f12], by simp (disch := first | omega | (simp only [lnv]; omega)) only [wlk, ↓get_put', ↓reduceIte, seval, f13]; rfl, ?_, fun i hi => ?_, ((st.trans tt).trans t3).past' t4 fun i hi => own i hi⟩
  · rw [take_wri hjl, List.map_append, List.flatMap_append]; simpa using b4
  · rcases ho i hi with h3 | h3
    · exact own i h3
    · omega
theorem bentries_ok {h : H} {v : V} {seq : Int} {L : List Wri} (hL : Ws h v L) (hl : L.length ≤ 10000) (hf : B.val h.floor ≤ B.val h.next) : FnOk Try.prog 21 [.i .i64 seq, v] h fun y h' => Es h' y (entB seq L) ∧ SwN 4 y ∧ Stay nowhere h h' :=
  (bentries_okO hL hl hf).mono fun _ _ ⟨a, b, _, d⟩ => ⟨a, b, d⟩
theorem blog_ok {h : H} {s : List UInt8} (hs : s.length ≤ 100000) (hf : B.val h.floor ≤ B.val h.next) : FnOk Try.prog 13 [sv s] h fun y h' => ∃ u, y = .tu [u, .i .i64 (logB s).2.1, .i .i64 ((logB s).2.2 : Int)] ∧ Es h' u (logB s).1 ∧ SwN 4 u ∧ Stay nowhere h h' := by
  refine fn_go c13 (by intro hb; cases hb) (by simp) (by simp) fun Q hQ => ?_
  simp only [slotsF, Nat.reduceAdd]
  repeat' (first
    | refine St.h ?_
    | simp (disch := first | omega | (simp only [lnv]; omega)) only [wlk, ↓get_put', ↓reduceIte, seval]
    | (with_reducible (first | apply cd_split | apply gd_split)) <;> (intro hc; (try simp only [hcn] at hc); (try simp only [hc]); (try simp only [hcl] at hc); try omega))
  refine Ok.lp (fun m t g => ∃ (a k : Nat) (z : Int) (u : V) (M : List Ent), m = s.length - a ∧ a ≤ s.length ∧ s.length - a ≤ k ∧ M.length ≤ 2 * a ∧ (0 < a → 0 ≤ z ∧ z ≤ 1000000) ∧ logB s = (M ++ (logF k (decide (a = 0)) z (s.drop a)).1, (logF k (decide (a = 0)) z (s.drop a)).2.1, a + (logF k (decide (a = 0)) z (s.drop a)).2.2) ∧ get 0 t = sv s ∧ get 5 t = u ∧ get 6 t = .i .i64 z ∧ get 7 t = .i .i64 (a : Int) ∧ Buf g 79 4 u (M.flatMap entC) ∧ (∀ q, isOf u q → B.val h.next ≤ B.val q) ∧ Stay nowhere h g) s.length ?_ ?_
  · simp (disch := first | omega | (simp only [lnv]; omega)) only [wlk, ↓get_put', ↓reduceIte, seval]
    refine ⟨0, s.length, 0, .l0, [], by omega, by omega, by omega, by simp, fun e => absurd e (by omega), ?_, ?_, ?_, ?_, ?_, Buf.nil _ _ _, ?_, Stay.refl _ _⟩
    rotate_right
    · rintro i ⟨_, _, _, _, _, e⟩; cases e
    · unfold logB; simp
    all_goals first | trivial | rfl
  rintro I hI m t g ⟨a, k, z, u, M, rfl, ha, hk, hM, hz, hG, f0, f5, f6, f7, bf, own, st⟩
  have hfg := st.fl hf
  have hdl : (s.drop a).length = s.length - a := List.length_drop
  have hend : logF k (decide (a = 0)) z (s.drop a) = ([], z, 0) → logB s = (M, z, a) := fun e => by rw [hG, e, List.append_nil]; rfl
  have hstop : (readR (s.drop a)).2.2.2 ≠ 0 ∨ (decide (a = 0) = false ∧ (readR (s.drop a)).1 ≠ z + 1) → logF k (decide (a = 0)) z (s.drop a) = ([], z, 0) := fun h => logF_stop (.inr h) k
  repeat' (first
    | refine St.h ?_
    | simp (disch := first | omega | (simp only [lnv]; omega)) only [wlk, ↓get_put', ↓reduceIte, seval, f0, f5, f6, f7, Int.toNat_natCast]
    | (with_reducible (first | apply cd_split | apply gd_split)) <;> (intro hc; (try simp only [hcn] at hc); (try simp only [hc]); (try simp only [hcl] at hc); try omega))
  refine CL.mk (bread_ok12 (s := s.drop a) (by omega) hfg) ?_
  rintro _ g1 ⟨w, rfl, hw, t1⟩
  have hf1 := t1.fl hfg
  have b1 := bf.grow t1
  have st1 := st.trans t1
  rcases readR_cases (s.drop a) with e | ⟨q, n, l, e, ho, hb, n1, n2⟩
  · have e0 := hend (hstop (.inl e))
    have d1 : ((readR (s.drop a)).2.2.2 = 0) = False := eq_false e
    repeat' (first
      | refine St.h ?_
      | simp (disch := first | omega | (simp only [lnv]; omega)) only [wlk, ↓get_put', ↓reduceIte, seval, f0, f5, f6, f7, rdV, d1]
      | (with_reducible (first | apply cd_split | apply gd_split)) <;> (intro hc; (try simp only [hcn] at hc); (try simp only [hc]); (try simp only [hcl] at hc); try omega))
    subst hQ
    rw [e0]
    exact ⟨u, rfl, Ss.buf b1 rfl entC_len (by omega), swn_buf12 b1, st1⟩
  have hq : 1 ≤ q ∧ q ≤ 1000000 := by
    have := (okB12_iff.1 ho).2; omega
  have hl8 := isB_len (okB12_iff.1 ho).1
  rw [hdl] at n2
  have hdd : (s.drop a).drop n = s.drop (a + n) := by rw [List.drop_drop]
  rw [e] at hw
  have hw : Ws g1 w l := hw
  have has : a < s.length := by omega
  obtain ⟨k, rfl⟩ : ∃ k', k = k' + 1 := ⟨k - 1, by omega⟩
  have hne : s.drop a ≠ [] := fun e => by rw [e] at hdl; simp at hdl; omega
  have hstep : ¬ (decide (a = 0) = false ∧ (q : Int) ≠ z + 1) → logF (k + 1) (decide (a = 0)) z (s.drop a) = (entB q l ++ (logF k false q (s.drop (a + n))).1, (logF k false q (s.drop (a + n))).2.1, n + (logF k false q (s.drop (a + n))).2.2) := fun hx => by
    show (if _ ∨ _ ∨ _ then _ else _ : List Ent × Int × Nat) = _
    rw [e, if_neg (by
      rintro (h1 | h1 | h1)
      · exact hne h1
      · exact h1 rfl
      · exact hx h1)]
    show (_, _, _) = _
    rw [← hdd]
    rfl
  by_cases hx : 0 < a ∧ (q : Int) ≠ z + 1
  · have e0 := hend (hstop (.inr ⟨by rw [decide_eq_false (by omega)], by rw [e]; exact hx.2⟩))
    have hz := hz hx.1
    have ha0 : ((0 : Int) < (a : Int)) = True := eq_true (by omega)
    have hqz : ((q : Int) = z + 1) = False := eq_false hx.2
    repeat' (first
      | refine St.h ?_
      | simp (disch := first | omega | (simp only [lnv]; omega)) only [wlk, ↓get_put', ↓reduceIte, seval, f0, f5, f6, f7, rdV, e, ha0, hqz]
      | (with_reducible (first | apply cd_split | apply gd_split)) <;> (intro hc; (try simp only [hcn] at hc); (try simp only [hc]); (try simp only [hcl] at hc); try omega))
    subst hQ
    rw [e0]
    exact ⟨u, rfl, Ss.buf b1 rfl entC_len (by omega), swn_buf12 b1, st1⟩
  have hst := hstep (fun h => hx ⟨by have := of_decide_eq_false h.1; omega, h.2⟩)
  have hel := entB_len (q : Int) l
  obtain ⟨A, hA⟩ : ∃ A : Bool, decide ((0 : Int) < (a : Int)) = A := ⟨_, rfl⟩
  have hzr : A = true → 0 ≤ z ∧ z ≤ 1000000 := fun h => hz (by rw [h] at hA; have := of_decide_eq_true hA; omega)
  have hqz : A = true → ((q : Int) = z + 1) = True := fun h => by
    refine eq_true ?_
    rw [h] at hA; have := of_decide_eq_true hA
    by_cases h2 : (q : Int) = z + 1
    · exact h2
    · exact absurd ⟨by omega, h2⟩ hx
  cases A
  all_goals
    first
    | have hzr := hzr rfl
      have hqz := hqz rfl
      have hA : ((0 : Int) < (a : Int)) = True := eq_true (of_decide_eq_true hA)
      repeat' (first
        | refine St.h ?_
        | simp (disch := first | omega | (simp only [lnv]; omega)) only [wlk, ↓get_put', ↓reduceIte, seval, f0, f5, f6, f7, rdV, e, hA, hqz]
        | (with_reducible (first | apply cd_split | apply gd_split)) <;> (intro hc; (try simp only [hcn] at hc); (try simp only [hc]); (try simp only [hcl] at hc); try omega))
    | have hA : ((0 : Int) < (a : Int)) = False := eq_false (of_decide_eq_false hA)
      repeat' (first
        | refine St.h ?_
        | simp (disch := first | omega | (simp only [lnv]; omega)) only [wlk, ↓get_put', ↓reduceIte, seval, f0, f5, f6, f7, rdV, e, hA]
        | (with_reducible (first | apply cd_split | apply gd_split)) <;> (intro hc; (try simp only [hcn] at hc); (try simp only [hc]); (try simp only [hcl] at hc); try omega))
    refine CL.mk (bentries_okO (seq := q) hw (by omega) hf1) ?_
    rintro u2 g2 ⟨he, _, heo, t2⟩
    have hf2 := t2.fl hf1
    have b2 := b1.grow t2
    repeat' (first
      | refine St.h ?_
      | simp (disch := first | omega | (simp only [lnv]; omega)) only [wlk, ↓get_put', ↓reduceIte, seval, f0, f5, f6, f7, rdV, e]
      | (with_reducible (first | apply cd_split | apply gd_split)) <;> (intro hc; (try simp only [hcn] at hc); (try simp only [hc]); (try simp only [hcl] at hc); try omega))
    refine AP.buf (vs := (entB q l).flatMap entC) (cnt := (entB q l).length) b2 (fun k => new_ss he entC_len (by omega) k) hf2 (by omega) (fm_len entC_len _) (allOne_ents _) (by rw [fm_len entC_len, fm_len entC_len]; omega) fun u3 g3 b3 t3 ho3 _ => ?_
    have n2' := (st1.trans t2).next
    repeat' (first
      | refine St.h ?_
      | simp (disch := first | omega | (simp only [lnv]; omega)) only [wlk, ↓get_put', ↓reduceIte, seval, f0, f5, f6, f7, rdV, e]
      | (with_reducible (first | apply cd_split | apply gd_split)) <;> (intro hc; (try simp only [hcn] at hc); (try simp only [hc]); (try simp only [hcl] at hc); try omega))
    refine lp_next hI (s.length - (a + n)) (by omega) ⟨a + n, k, q, u3, M ++ entB q l, rfl, by omega, by omega, by rw [List.length_append]; omega, fun _ => by omega, ?_, by simp (disch := first | omega | (simp only [lnv]; omega)) only [wlk, ↓get_put', ↓reduceIte, seval, f0], by simp (disch := first | omega | (simp only [lnv]; omega)) only [wlk, ↓get_put', ↓reduceIte, seval], by simp (disch := first | omega | (simp only [lnv]; omega)) only [wlk, ↓get_put', ↓reduceIte, seval], by simp (disch := first | omega | (simp only [lnv]; omega)) only [wlk, ↓get_put', ↓reduceIte, seval]; rfl, by rw [List.flatMap_append]; exact b3, fun i hi => ?_, (st1.trans t2).past' t3 fun i hi => own i hi⟩
    · rw [hG, hst, decide_eq_false (by omega : ¬ a + n = 0)]
      rw [List.append_assoc, Nat.add_assoc]
    · rcases ho3 i hi with h3 | h3
      · exact own i h3
      · omega
end Go.Proofs.Ythncpgkpkdolfaa

set_option maxRecDepth 1000000
set_option linter.all false
namespace Go.Proofs.Ythncpgkpkdolfaa
open Go Go.Ev
noncomputable abbrev s7_0 : CC := (CC.seq (CC.draws [(uB 51 (doMove (tm 3))), (uB 52 (bin2 fEql (tm 51) (oN 0))), (uB 53 (doMove (tm 52))), (uG 53 true 54 (doMove (tm 7))), (uG 53 true 55 (bin2 fEql (tm 54) (oN 0))), (uB 56 (doPick (tm 53) (tm 55) (O.c (V.b Bool.false)))), (uB 57 (doMove (tm 56))), (uG 57 true 58 (doMove (tm 4))), (uG 57 true 59 (bin2 fEql (tm 58) (oN 3))), (uB 60 (doPick (tm 57) (tm 59) (O.c (V.b Bool.false)))), (uB 61 (doMove (tm 60))), (uG 61 true 62 (doMove (tm 6))), (uG 61 true 63 (doMove (tm 2))), (uG 61 true 64 (doLenS (tm 63))), (uG 61 true 65 (bin2 fEql (tm 62) (tm 64))), (uB 66 (doPick (tm 61) (tm 65) (O.c (V.b Bool.false)))), (uB 67 (doMove (tm 66))), (uG 67 true 68 (doMove (tm 5))), (uG 67 true 69 (doMove (tm 1))), (wG 67 true 70 (doCall 17 [(tm 68), (tm 69)])), (uB 71 (doPick (tm 67) (tm 70) (O.c (V.b Bool.false)))), (uB 72 (doMove (tm 71))), (uG 72 true 73 (doMove (tm 9))), (uG 72 true 74 (bin2 fEql (tm 73) (oN 10))), (uB 75 (doPick (tm 72) (tm 74) (O.c (V.b Bool.false)))), (uB 76 (doMove (tm 75))), (uG 76 true 77 (doMove (tm 1))), (wG 76 true 78 (doCall 15 [(tm 77)])), (uB 79 (doPick (tm 76) (tm 78) (O.c (V.b Bool.false)))), (uB 80 (doMove (tm 79))), (wG 80 true 81 (doCall 15 [(O.c V.l0)])), (uB 82 (doPick (tm 80) (tm 81) (O.c (V.b Bool.false)))), (uB 83 (doMove (tm 82))), (uG 83 true 84 (doMove (tm 1))), (uG 83 true 85 (doIndexAddr 3 (tm 84) (oN 1))), (uG 83 true 86 (doLoadA 3 (tm 85))), (uG 83 true 87 (doMove (tm 1))), (uG 83 true 88 (doIndexAddr 3 (tm 87) (oN 0))), (uG 83 true 89 (doLoadA 3 (tm 88))), (wG 83 true 90 (doBuildSlice 49 2 [(V.s 0 0), (V.b Bool.false), (V.s 0 0), (V.s 0 0), (V.b Bool.false), (V.s 0 0)] [(Pt.mk 0 3 (tm 86)), (Pt.mk 3 3 (tm 89))])), (wG 83 true 91 (doCall 15 [(tm 90)])), (uG 83 true 92 (doNot (tm 91))), (uB 93 (doPick (tm 83) (tm 92) (O.c (V.b Bool.false)))), (uB 94 (doMove (tm 93))), (uG 94 true 95 (doMove (tm 10))), (uG 94 true 96 (doLen (tm 95))), (uG 94 true 97 (bin2 fEql (tm 96) (oN 2))), (uB 98 (doPick (tm 94) (tm 97) (O.c (V.b Bool.false)))), (uB 99 (doMove (tm 98))), (uG 99 true 100 (doMove (tm 10))), (uG 99 true 101 (doIndexAddr 3 (tm 100) (oN 1))), (uG 99 true 102 (doFieldAddr 2 (tm 101))), (wG 99 true 103 (doLoad (tm 102))), (uG 99 true 104 (doSCmp eqS (tm 103) (O.c (V.s 1 121)))), (uB 105 (doPick (tm 99) (tm 104) (O.c (V.b Bool.false)))), (uB 106 (doMove (tm 105))), (uG 106 true 107 (doMove (tm 11))), (uG 106 true 108 (doLen (tm 107))), (uG 106 true 109 (bin2 fEql (tm 108) (oN 2))), (uB 110 (doPick (tm 106) (tm 109) (O.c (V.b Bool.false)))), (uB 111 (doMove (tm 110))), (uG 111 true 112 (doMove (tm 12))), (uG 111 true 113 (bin2 fEql (tm 112) (oN 3))), (uB 114 (doPick (tm 111) (tm 113) (O.c (V.b Bool.false)))), (uB 115 (doMove (tm 114))), (uG 115 true 116 (doMove (tm 13))), (uG 115 true 117 (doMove (tm 2))), (uG 115 true 118 (doLenS (tm 117))), (uG 115 true 119 (bin2 fEql (tm 116) (tm 118))), (uB 120 (doPick (tm 115) (tm 119) (O.c (V.b Bool.false)))), (uB 121 (doMove (tm 120))), (uG 121 true 122 (doMove (tm 1))), (wG 121 true 123 (doCall 21 [(oN 5), (tm 122)])), (uG 121 true 124 (doLen (tm 123))), (uG 121 true 125 (bin2 fEql (tm 124) (oN 2))), (uB 126 (doPick (tm 121) (tm 125) (O.c (V.b Bool.false)))), (uB 0 (doMove (tm 126)))]) CC.ret)
noncomputable abbrev s7_1 : CC := (CC.seq (CC.region [(wB 45 (doMove (tm 2))), (wB 46 (doConcat (tm 45) (O.c (V.s 1 122)))), (wB 47 (doCall 13 [(tm 46)])), (wB 44 (doMove (tm 47))), (wB 48 (doExtract 0 (tm 44))), (wB 49 (doExtract 1 (tm 44))), (wB 50 (doExtract 2 (tm 44))), (wB 11 (doMove (tm 48))), (wB 12 (doMove (tm 49))), (wB 13 (doMove (tm 50)))]) s7_0)
noncomputable abbrev s7_2 : CC := (CC.seq (CC.draws [(uB 35 (doMove (tm 1))), (uB 36 (doIndexAddr 3 (tm 35) (oN 1))), (uB 37 (doLoadA 3 (tm 36))), (uB 38 (doMove (tm 1))), (uB 39 (doIndexAddr 3 (tm 38) (oN 0))), (uB 40 (doLoadA 3 (tm 39))), (uB 41 (doBuild [(V.s 0 0), (V.b Bool.false), (V.s 0 0)] [(Pt.mk 0 1 (O.c (V.s 1 98))), (Pt.mk 2 1 (O.c (V.s 1 121)))])), (wB 42 (doBuildSlice 49 3 [(V.s 0 0), (V.b Bool.false), (V.s 0 0), (V.s 0 0), (V.b Bool.false), (V.s 0 0), (V.s 0 0), (V.b Bool.false), (V.s 0 0)] [(Pt.mk 0 3 (tm 37)), (Pt.mk 3 3 (tm 40)), (Pt.mk 6 3 (tm 41))])), (wB 43 (doCall 18 [(tm 42)])), (uB 10 (doMove (tm 43)))]) s7_1)
noncomputable abbrev s7_3 : CC := (CC.seq (CC.region [(wB 31 (doMove (tm 1))), (wB 32 (doCall 9 [(oN 0), (tm 31)])), (wB 30 (doMove (tm 32))), (wB 33 (doExtract 0 (tm 30))), (wB 34 (doExtract 1 (tm 30))), (wB 8 (doMove (tm 33))), (wB 9 (doMove (tm 34)))]) s7_2)
noncomputable abbrev s7_4 : CC := (CC.seq (CC.region [(wB 23 (doMove (tm 2))), (wB 24 (doConcat (tm 23) (O.c (V.s 1 122)))), (wB 25 (doCall 11 [(tm 24)])), (wB 22 (doMove (tm 25))), (wB 26 (doExtract 0 (tm 22))), (wB 27 (doExtract 1 (tm 22))), (wB 28 (doExtract 2 (tm 22))), (wB 29 (doExtract 3 (tm 22))), (wB 4 (doMove (tm 26))), (wB 5 (doMove (tm 27))), (wB 6 (doMove (tm 28))), (wB 7 (doMove (tm 29)))]) s7_3)
noncomputable abbrev s7_5 : CC := (CC.seq (CC.region [(wB 18 (doMove (tm 1))), (wB 19 (doCall 9 [(oN 3), (tm 18)])), (wB 17 (doMove (tm 19))), (wB 20 (doExtract 0 (tm 17))), (wB 21 (doExtract 1 (tm 17))), (wB 2 (doMove (tm 20))), (wB 3 (doMove (tm 21)))]) s7_4)
noncomputable abbrev s7_6 : CC := (CC.seq (CC.region [(wB 14 (doBuild [(V.s 0 0), (V.b Bool.false), (V.s 0 0)] [(Pt.mk 0 1 (O.c (V.s 1 97))), (Pt.mk 2 1 (O.c (V.s 1 120)))])), (wB 15 (doBuild [(V.s 0 0), (V.b Bool.false), (V.s 0 0)] [(Pt.mk 0 1 (O.c (V.s 1 98))), (Pt.mk 1 1 (O.c (V.b Bool.true)))])), (wB 16 (doBuildSlice 49 2 [(V.s 0 0), (V.b Bool.false), (V.s 0 0), (V.s 0 0), (V.b Bool.false), (V.s 0 0)] [(Pt.mk 0 3 (tm 14)), (Pt.mk 3 3 (tm 15))])), (wB 1 (doMove (tm 16)))]) s7_5)
noncomputable abbrev b7 : CC := (CC.seq (CC.region [(wB 0 (doMove (O.c (V.b Bool.false))))]) s7_6)
theorem c7 : compFn Try.prog 7 = ⟨127, b7, [(Rs.tmp (slOf 0))]⟩ := by kernel_rfl
noncomputable abbrev s3_0 : CC := (CC.seq (CC.region [(wB 6 (doMove (O.c (V.b Bool.false))))]) CC.ret)
noncomputable abbrev s3_1 : CC := (CC.cond (tm 26) s3_0 CC.skip)
noncomputable abbrev s3_2 : CC := (CC.seq (CC.region [(wB 25 (doCall 7 [])), (wB 26 (doNot (tm 25)))]) s3_1)
noncomputable abbrev s3_3 : CC := (CC.seq (CC.region [(wB 6 (doMove (O.c (V.b Bool.true))))]) CC.ret)
noncomputable abbrev s3_4 : CC := (CC.cond (tm 34) s3_3 CC.skip)
noncomputable abbrev s3_5 : CC := (CC.seq (CC.region [(wB 27 (doMove (tm 0))), (wB 28 (doCall 8 [(tm 27)])), (wB 29 (doNot (tm 28))), (wB 30 (doMove (tm 29))), (wG 30 false 31 (doMove (tm 2))), (wG 30 false 32 (doLenS (tm 31))), (wG 30 false 33 (bin2 fGtr (tm 32) (oN 1500))), (wB 34 (doPick (tm 30) (O.c (V.b Bool.true)) (tm 33)))]) s3_4)
noncomputable abbrev s3_6 : CC := (CC.seq (CC.region [(wB 73 (doMove (tm 0))), (wB 74 (doCall 15 [(tm 73)])), (wB 75 (doMove (tm 0))), (wB 76 (doCall 16 [(tm 75)])), (wB 77 (doBool Bool.false (tm 74) (tm 76))), (wB 78 (doMove (tm 77))), (wG 78 true 79 (doMove (tm 0))), (wG 78 true 80 (doCall 18 [(tm 79)])), (wG 78 true 81 (doMove (tm 0))), (wG 78 true 82 (doCall 19 [(tm 81)])), (wG 78 true 83 (doCall 17 [(tm 80), (tm 82)])), (wB 84 (doPick (tm 78) (tm 83) (O.c (V.b Bool.false)))), (wB 85 (doMove (tm 84))), (wG 85 true 86 (doMove (tm 7))), (wG 85 true 87 (doMove (tm 9))), (wG 85 true 88 (doSCmp eqS (tm 86) (tm 87))), (wB 89 (doPick (tm 85) (tm 88) (O.c (V.b Bool.false)))), (wB 90 (doMove (tm 89))), (wG 90 true 91 (doMove (tm 8))), (wG 90 true 92 (doMove (tm 10))), (wG 90 true 93 (bin2 fEql (tm 91) (tm 92))), (wB 94 (doPick (tm 90) (tm 93) (O.c (V.b Bool.false)))), (wB 95 (doMove (tm 94))), (wG 95 true 96 (doMove (tm 11))), (wG 95 true 97 (doMove (tm 15))), (wG 95 true 98 (bin2 fEql (tm 96) (tm 97))), (wB 99 (doPick (tm 95) (tm 98) (O.c (V.b Bool.false)))), (wB 100 (doMove (tm 99))), (wG 100 true 101 (doMove (tm 12))), (wG 100 true 102 (doMove (tm 16))), (wG 100 true 103 (doCall 17 [(tm 101), (tm 102)])), (wB 104 (doPick (tm 100) (tm 103) (O.c (V.b Bool.false)))), (wB 105 (doMove (tm 104))), (wG 105 true 106 (doMove (tm 13))), (wG 105 true 107 (doMove (tm 17))), (wG 105 true 108 (bin2 fEql (tm 106) (tm 107))), (wB 109 (doPick (tm 105) (tm 108) (O.c (V.b Bool.false)))), (wB 110 (doMove (tm 109))), (wG 110 true 111 (doMove (tm 14))), (wG 110 true 112 (doMove (tm 18))), (wG 110 true 113 (bin2 fEql (tm 111) (tm 112))), (wB 114 (doPick (tm 110) (tm 113) (O.c (V.b Bool.false)))), (wB 115 (doMove (tm 114))), (wG 115 true 116 (doMove (tm 19))), (wG 115 true 117 (doMove (tm 22))), (wG 115 true 118 (doCall 20 [(tm 116), (tm 117)])), (wB 119 (doPick (tm 115) (tm 118) (O.c (V.b Bool.false)))), (wB 120 (doMove (tm 119))), (wG 120 true 121 (doMove (tm 20))), (wG 120 true 122 (doMove (tm 23))), (wG 120 true 123 (bin2 fEql (tm 121) (tm 122))), (wB 124 (doPick (tm 120) (tm 123) (O.c (V.b Bool.false)))), (wB 125 (doMove (tm 124))), (wG 125 true 126 (doMove (tm 21))), (wG 125 true 127 (doMove (tm 24))), (wG 125 true 128 (bin2 fEql (tm 126) (tm 127))), (wB 129 (doPick (tm 125) (tm 128) (O.c (V.b Bool.false)))), (wB 130 (doMove (tm 129))), (wG 130 true 131 (doMove (tm 1))), (wG 130 true 132 (doMove (tm 0))), (wG 130 true 133 (doCall 21 [(tm 131), (tm 132)])), (wG 130 true 134 (doMove (tm 1))), (wG 130 true 135 (doMove (tm 0))), (wG 130 true 136 (doCall 22 [(tm 134), (tm 135)])), (wG 130 true 137 (doCall 20 [(tm 133), (tm 136)])), (wB 138 (doPick (tm 130) (tm 137) (O.c (V.b Bool.false)))), (wB 6 (doMove (tm 138)))]) CC.ret)
noncomputable abbrev s3_7 : CC := (CC.seq (CC.region [(wB 68 (doMove (tm 2))), (wB 69 (doCall 14 [(tm 68)])), (wB 67 (doMove (tm 69))), (wB 70 (doExtract 0 (tm 67))), (wB 71 (doExtract 1 (tm 67))), (wB 72 (doExtract 2 (tm 67))), (wB 22 (doMove (tm 70))), (wB 23 (doMove (tm 71))), (wB 24 (doMove (tm 72)))]) s3_6)
noncomputable abbrev s3_8 : CC := (CC.seq (CC.region [(wB 62 (doMove (tm 2))), (wB 63 (doCall 13 [(tm 62)])), (wB 61 (doMove (tm 63))), (wB 64 (doExtract 0 (tm 61))), (wB 65 (doExtract 1 (tm 61))), (wB 66 (doExtract 2 (tm 61))), (wB 19 (doMove (tm 64))), (wB 20 (doMove (tm 65))), (wB 21 (doMove (tm 66)))]) s3_7)
noncomputable abbrev s3_9 : CC := (CC.seq (CC.region [(wB 55 (doMove (tm 2))), (wB 56 (doCall 12 [(tm 55)])), (wB 54 (doMove (tm 56))), (wB 57 (doExtract 0 (tm 54))), (wB 58 (doExtract 1 (tm 54))), (wB 59 (doExtract 2 (tm 54))), (wB 60 (doExtract 3 (tm 54))), (wB 15 (doMove (tm 57))), (wB 16 (doMove (tm 58))), (wB 17 (doMove (tm 59))), (wB 18 (doMove (tm 60)))]) s3_8)
noncomputable abbrev s3_10 : CC := (CC.seq (CC.region [(wB 48 (doMove (tm 2))), (wB 49 (doCall 11 [(tm 48)])), (wB 47 (doMove (tm 49))), (wB 50 (doExtract 0 (tm 47))), (wB 51 (doExtract 1 (tm 47))), (wB 52 (doExtract 2 (tm 47))), (wB 53 (doExtract 3 (tm 47))), (wB 11 (doMove (tm 50))), (wB 12 (doMove (tm 51))), (wB 13 (doMove (tm 52))), (wB 14 (doMove (tm 53)))]) s3_9)
noncomputable abbrev s3_11 : CC := (CC.seq (CC.region [(wB 42 (doMove (tm 1))), (wB 43 (doMove (tm 0))), (wB 44 (doCall 10 [(tm 42), (tm 43)])), (wB 41 (doMove (tm 44))), (wB 45 (doExtract 0 (tm 41))), (wB 46 (doExtract 1 (tm 41))), (wB 9 (doMove (tm 45))), (wB 10 (doMove (tm 46)))]) s3_10)
noncomputable abbrev s3_12 : CC := (CC.seq (CC.region [(wB 36 (doMove (tm 1))), (wB 37 (doMove (tm 0))), (wB 38 (doCall 9 [(tm 36), (tm 37)])), (wB 35 (doMove (tm 38))), (wB 39 (doExtract 0 (tm 35))), (wB 40 (doExtract 1 (tm 35))), (wB 7 (doMove (tm 39))), (wB 8 (doMove (tm 40)))]) s3_11)
noncomputable abbrev s3_13 : CC := (CC.seq s3_5 s3_12)
noncomputable abbrev s3_14 : CC := (CC.seq s3_2 s3_13)
noncomputable abbrev b3 : CC := (CC.seq (CC.region [(wB 6 (doMove (O.c (V.b Bool.false))))]) s3_14)
theorem c3 : compFn Try.prog 3 = ⟨139, b3, [(Rs.tmp (slOf 6))]⟩ := by kernel_rfl
noncomputable abbrev s4_0 : CC := (CC.seq (CC.region [(wB 8 (doMove (O.c (V.b Bool.false))))]) CC.ret)
noncomputable abbrev s4_1 : CC := (CC.cond (tm 29) s4_0 CC.skip)
noncomputable abbrev s4_2 : CC := (CC.seq (CC.region [(wB 28 (doCall 7 [])), (wB 29 (doNot (tm 28)))]) s4_1)
noncomputable abbrev s4_3 : CC := (CC.seq (CC.region [(wB 8 (doMove (O.c (V.b Bool.true))))]) CC.ret)
noncomputable abbrev s4_4 : CC := (CC.cond (tm 37) s4_3 CC.skip)
noncomputable abbrev s4_5 : CC := (CC.seq (CC.region [(wB 30 (doMove (tm 0))), (wB 31 (doLen (tm 30))), (wB 32 (bin2 fGtr (tm 31) (oN 10))), (wB 33 (doMove (tm 32))), (wG 33 false 34 (doMove (tm 0))), (wG 33 false 35 (doLen (tm 34))), (wG 33 false 36 (bin2 fEql (tm 35) (oN 0))), (wB 37 (doPick (tm 33) (O.c (V.b Bool.true)) (tm 36)))]) s4_4)
noncomputable abbrev s4_6 : CC := (CC.cond (tm 47) CC.skip (CC.exit 0))
noncomputable abbrev s4_7 : CC := (CC.seq (CC.region [(wB 44 (doMove (tm 14))), (wB 45 (doMove (tm 0))), (wB 46 (doLen (tm 45))), (wB 47 (bin2 fLss (tm 44) (tm 46)))]) s4_6)
noncomputable abbrev s4_8 : CC := (CC.seq (CC.region [(wB 8 (doMove (O.c (V.b Bool.true))))]) CC.ret)
noncomputable abbrev s4_9 : CC := (CC.cond (tm 55) s4_8 CC.skip)
noncomputable abbrev s4_10 : CC := (CC.seq (CC.region [(wB 50 (doMove (tm 0))), (wB 51 (doMove (tm 14))), (wB 52 (doIndexAddr 1 (tm 50) (tm 51))), (wB 53 (doLoad (tm 52))), (wB 54 (doCall 8 [(tm 53)])), (wB 55 (doNot (tm 54)))]) s4_9)
noncomputable abbrev s4_11 : CC := (CC.region [(wB 73 (doMove (tm 16))), (wB 74 (bin2 fAdd (tm 73) (oN 1))), (wB 16 (doMove (tm 74)))])
noncomputable abbrev s4_12 : CC := (CC.cond (tm 72) s4_11 CC.skip)
noncomputable abbrev s4_13 : CC := (CC.seq (CC.region [(wB 66 (doMove (tm 13))), (wB 67 (bin2 fGtr (tm 66) (oN 0))), (wB 68 (doMove (tm 67))), (wG 68 true 69 (doMove (tm 14))), (wG 68 true 70 (doMove (tm 13))), (wG 68 true 71 (bin2 fGeq (tm 69) (tm 70))), (wB 72 (doPick (tm 68) (tm 71) (O.c (V.b Bool.false))))]) s4_12)
noncomputable abbrev s4_14 : CC := (CC.seq (CC.region [(wB 83 (doMove (tm 15))), (wB 84 (doCall 16 [(tm 83)])), (wB 85 (doNot (tm 84))), (wB 8 (doMove (tm 85)))]) CC.ret)
noncomputable abbrev s4_15 : CC := (CC.cond (tm 82) s4_14 CC.skip)
noncomputable abbrev s4_16 : CC := (CC.seq (CC.region [(wB 81 (doMove (tm 18))), (wB 82 (bin2 fNeq (tm 81) (oN 0)))]) s4_15)
noncomputable abbrev s4_17 : CC := (CC.region [(wB 93 (doMove (tm 10))), (wB 94 (doMove (tm 9))), (wB 95 (doLenS (tm 94))), (wB 96 (doBuildSlice 3 1 [(V.i IntKind.i64 (Int.ofNat 0))] [(Pt.mk 0 1 (tm 95))])), (wB 97 (doAppend 3 1 (tm 93) (tm 96))), (wB 98 (doMove (tm 11))), (wB 99 (doMove (tm 12))), (wB 100 (doBuildSlice 3 1 [(V.i IntKind.i64 (Int.ofNat 0))] [(Pt.mk 0 1 (tm 99))])), (wB 101 (doAppend 3 1 (tm 98) (tm 100))), (wB 10 (doMove (tm 97))), (wB 11 (doMove (tm 101)))])
noncomputable abbrev s4_18 : CC := (CC.seq (CC.region [(wB 89 (doMove (tm 12))), (wB 90 (doMove (tm 15))), (wB 91 (doLen (tm 90))), (wB 92 (bin2 fAdd (tm 89) (tm 91))), (wB 12 (doMove (tm 92)))]) s4_17)
noncomputable abbrev s4_19 : CC := (CC.seq (CC.region [(wB 86 (doMove (tm 9))), (wB 87 (doMove (tm 17))), (wB 88 (doConcat (tm 86) (tm 87))), (wB 9 (doMove (tm 88)))]) s4_18)
noncomputable abbrev s4_20 : CC := (CC.seq s4_16 s4_19)
noncomputable abbrev s4_21 : CC := (CC.seq (CC.region [(wB 76 (doMove (tm 16))), (wB 77 (doMove (tm 15))), (wB 78 (doCall 9 [(tm 76), (tm 77)])), (wB 75 (doMove (tm 78))), (wB 79 (doExtract 0 (tm 75))), (wB 80 (doExtract 1 (tm 75))), (wB 17 (doMove (tm 79))), (wB 18 (doMove (tm 80)))]) s4_20)
noncomputable abbrev s4_22 : CC := (CC.seq s4_13 s4_21)
noncomputable abbrev s4_23 : CC := (CC.seq (CC.region [(wB 61 (doMove (tm 1))), (wB 62 (doConv IntKind.i64 (tm 61))), (wB 63 (bin2 fAdd (tm 62) (oN 1))), (wB 64 (doMove (tm 14))), (wB 65 (bin2 fAdd (tm 63) (tm 64))), (wB 16 (doMove (tm 65)))]) s4_22)
noncomputable abbrev s4_24 : CC := (CC.seq (CC.region [(wB 56 (doMove (tm 0))), (wB 57 (doMove (tm 14))), (wB 58 (doIndexAddr 1 (tm 56) (tm 57))), (wB 59 (doLoad (tm 58))), (wB 60 (doCall 18 [(tm 59)])), (wB 15 (doMove (tm 60)))]) s4_23)
noncomputable abbrev s4_25 : CC := (CC.seq s4_10 s4_24)
noncomputable abbrev s4_26 : CC := (CC.block 1 s4_25)
noncomputable abbrev s4_27 : CC := (CC.region [(wB 48 (doMove (tm 14))), (wB 49 (bin2 fAdd (tm 48) (oN 1))), (wB 14 (doMove (tm 49)))])
noncomputable abbrev s4_28 : CC := (CC.seq s4_26 s4_27)
noncomputable abbrev l4_0 : CC := (CC.seq s4_7 s4_28)
noncomputable abbrev s4_29 : CC := (CC.loop l4_0)
noncomputable abbrev s4_30 : CC := (CC.block 0 s4_29)
noncomputable abbrev s4_31 : CC := (CC.seq (CC.region [(wB 14 (doMove (oN 0)))]) s4_30)
noncomputable abbrev s4_32 : CC := (CC.region [(wB 112 (doMove (tm 13))), (wB 19 (doMove (tm 112)))])
noncomputable abbrev s4_33 : CC := (CC.cond (tm 111) s4_32 CC.skip)
noncomputable abbrev s4_34 : CC := (CC.seq (CC.region [(wB 104 (doMove (tm 13))), (wB 105 (bin2 fGtr (tm 104) (oN 0))), (wB 106 (doMove (tm 105))), (wG 106 true 107 (doMove (tm 13))), (wG 106 true 108 (doMove (tm 0))), (wG 106 true 109 (doLen (tm 108))), (wG 106 true 110 (bin2 fLss (tm 107) (tm 109))), (wB 111 (doPick (tm 106) (tm 110) (O.c (V.b Bool.false))))]) s4_33)
noncomputable abbrev s4_35 : CC := (CC.seq (CC.region [(wB 8 (doMove (O.c (V.b Bool.false))))]) CC.ret)
noncomputable abbrev s4_36 : CC := (CC.cond (tm 143) s4_35 CC.skip)
noncomputable abbrev s4_37 : CC := (CC.seq (CC.region [(wB 119 (doMove (tm 20))), (wB 120 (doLen (tm 119))), (wB 121 (doMove (tm 11))), (wB 122 (doMove (tm 19))), (wB 123 (bin2 fSub (tm 122) (oN 1))), (wB 124 (doIndexAddr 1 (tm 121) (tm 123))), (wB 125 (doLoad (tm 124))), (wB 126 (bin2 fNeq (tm 120) (tm 125))), (wB 127 (doMove (tm 126))), (wG 127 false 128 (doMove (tm 21))), (wG 127 false 129 (doMove (tm 1))), (wG 127 false 130 (doConv IntKind.i64 (tm 129))), (wG 127 false 131 (doMove (tm 19))), (wG 127 false 132 (bin2 fAdd (tm 130) (tm 131))), (wG 127 false 133 (bin2 fNeq (tm 128) (tm 132))), (wB 134 (doPick (tm 127) (O.c (V.b Bool.true)) (tm 133))), (wB 135 (doMove (tm 134))), (wG 135 false 136 (doMove (tm 22))), (wG 135 false 137 (doMove (tm 10))), (wG 135 false 138 (doMove (tm 19))), (wG 135 false 139 (bin2 fSub (tm 138) (oN 1))), (wG 135 false 140 (doIndexAddr 1 (tm 137) (tm 139))), (wG 135 false 141 (doLoad (tm 140))), (wG 135 false 142 (bin2 fNeq (tm 136) (tm 141))), (wB 143 (doPick (tm 135) (O.c (V.b Bool.true)) (tm 142)))]) s4_36)
noncomputable abbrev s4_38 : CC := (CC.cond (tm 159) CC.skip (CC.exit 2))
noncomputable abbrev s4_39 : CC := (CC.seq (CC.region [(wB 149 (doMove (tm 24))), (wB 150 (doMove (tm 19))), (wB 151 (bin2 fLss (tm 149) (tm 150))), (wB 152 (doMove (tm 151))), (wG 152 true 153 (doMove (tm 10))), (wG 152 true 154 (doMove (tm 24))), (wG 152 true 155 (doIndexAddr 1 (tm 153) (tm 154))), (wG 152 true 156 (doLoad (tm 155))), (wG 152 true 157 (doMove (tm 23))), (wG 152 true 158 (bin2 fLeq (tm 156) (tm 157))), (wB 159 (doPick (tm 152) (tm 158) (O.c (V.b Bool.false))))]) s4_38)
noncomputable abbrev s4_40 : CC := (CC.region [(wB 160 (doMove (tm 24))), (wB 161 (bin2 fAdd (tm 160) (oN 1))), (wB 24 (doMove (tm 161)))])
noncomputable abbrev s4_41 : CC := (CC.block 3 s4_40)
noncomputable abbrev l4_1 : CC := (CC.seq s4_39 s4_41)
noncomputable abbrev s4_42 : CC := (CC.loop l4_1)
noncomputable abbrev s4_43 : CC := (CC.block 2 s4_42)
noncomputable abbrev s4_44 : CC := (CC.seq (CC.region [(wB 172 (doMove (tm 25))), (wB 173 (doLen (tm 172))), (wB 174 (bin2 fEql (tm 173) (oN 0))), (wB 175 (doMove (tm 174))), (wG 175 true 176 (doMove (tm 26))), (wG 175 true 177 (bin2 fEql (tm 176) (oN 0))), (wB 178 (doPick (tm 175) (tm 177) (O.c (V.b Bool.false)))), (wB 179 (doMove (tm 178))), (wG 179 true 180 (doMove (tm 27))), (wG 179 true 181 (bin2 fEql (tm 180) (oN 0))), (wB 182 (doPick (tm 179) (tm 181) (O.c (V.b Bool.false)))), (wB 8 (doMove (tm 182)))]) CC.ret)
noncomputable abbrev s4_45 : CC := (CC.cond (tm 171) s4_44 CC.skip)
noncomputable abbrev s4_46 : CC := (CC.seq (CC.region [(wB 170 (doMove (tm 24))), (wB 171 (bin2 fEql (tm 170) (oN 0)))]) s4_45)
noncomputable abbrev s4_47 : CC := (CC.seq (CC.region [(wB 183 (doMove (tm 25))), (wB 184 (doLen (tm 183))), (wB 185 (doMove (tm 11))), (wB 186 (doMove (tm 24))), (wB 187 (bin2 fSub (tm 186) (oN 1))), (wB 188 (doIndexAddr 1 (tm 185) (tm 187))), (wB 189 (doLoad (tm 188))), (wB 190 (bin2 fEql (tm 184) (tm 189))), (wB 191 (doMove (tm 190))), (wG 191 true 192 (doMove (tm 26))), (wG 191 true 193 (doMove (tm 1))), (wG 191 true 194 (doConv IntKind.i64 (tm 193))), (wG 191 true 195 (doMove (tm 24))), (wG 191 true 196 (bin2 fAdd (tm 194) (tm 195))), (wG 191 true 197 (bin2 fEql (tm 192) (tm 196))), (wB 198 (doPick (tm 191) (tm 197) (O.c (V.b Bool.false)))), (wB 199 (doMove (tm 198))), (wG 199 true 200 (doMove (tm 27))), (wG 199 true 201 (doMove (tm 10))), (wG 199 true 202 (doMove (tm 24))), (wG 199 true 203 (bin2 fSub (tm 202) (oN 1))), (wG 199 true 204 (doIndexAddr 1 (tm 201) (tm 203))), (wG 199 true 205 (doLoad (tm 204))), (wG 199 true 206 (bin2 fEql (tm 200) (tm 205))), (wB 207 (doPick (tm 199) (tm 206) (O.c (V.b Bool.false)))), (wB 8 (doMove (tm 207)))]) CC.ret)
noncomputable abbrev s4_48 : CC := (CC.seq s4_46 s4_47)
noncomputable abbrev s4_49 : CC := (CC.seq (CC.region [(wB 163 (doMove (tm 9))), (wB 164 (doMove (tm 23))), (wB 165 (doSSlice (tm 163) none (some (tm 164)))), (wB 166 (doCall 13 [(tm 165)])), (wB 162 (doMove (tm 166))), (wB 167 (doExtract 0 (tm 162))), (wB 168 (doExtract 1 (tm 162))), (wB 169 (doExtract 2 (tm 162))), (wB 25 (doMove (tm 167))), (wB 26 (doMove (tm 168))), (wB 27 (doMove (tm 169)))]) s4_48)
noncomputable abbrev s4_50 : CC := (CC.seq s4_43 s4_49)
noncomputable abbrev s4_51 : CC := (CC.seq (CC.region [(wB 24 (doMove (oN 0)))]) s4_50)
noncomputable abbrev s4_52 : CC := (CC.seq (CC.region [(wB 144 (doMove (tm 2))), (wB 145 (doConv IntKind.i64 (tm 144))), (wB 146 (doMove (tm 9))), (wB 147 (doLenS (tm 146))), (wB 148 (doRem (tm 145) (tm 147))), (wB 23 (doMove (tm 148)))]) s4_51)
noncomputable abbrev s4_53 : CC := (CC.seq s4_37 s4_52)
noncomputable abbrev s4_54 : CC := (CC.seq (CC.region [(wB 114 (doMove (tm 9))), (wB 115 (doCall 13 [(tm 114)])), (wB 113 (doMove (tm 115))), (wB 116 (doExtract 0 (tm 113))), (wB 117 (doExtract 1 (tm 113))), (wB 118 (doExtract 2 (tm 113))), (wB 20 (doMove (tm 116))), (wB 21 (doMove (tm 117))), (wB 22 (doMove (tm 118)))]) s4_53)
noncomputable abbrev s4_55 : CC := (CC.seq s4_34 s4_54)
noncomputable abbrev s4_56 : CC := (CC.seq (CC.region [(wB 102 (doMove (tm 0))), (wB 103 (doLen (tm 102))), (wB 19 (doMove (tm 103)))]) s4_55)
noncomputable abbrev s4_57 : CC := (CC.seq s4_31 s4_56)
noncomputable abbrev s4_58 : CC := (CC.seq (CC.region [(wB 38 (doMove (tm 3))), (wB 39 (doConv IntKind.i64 (tm 38))), (wB 40 (doMove (tm 0))), (wB 41 (doLen (tm 40))), (wB 42 (bin2 fMul (oN 2) (tm 41))), (wB 43 (doRem (tm 39) (tm 42))), (wB 13 (doMove (tm 43)))]) s4_57)
noncomputable abbrev s4_59 : CC := (CC.seq (CC.region [(wB 12 (doMove (oN 0)))]) s4_58)
noncomputable abbrev s4_60 : CC := (CC.seq (CC.region [(wB 10 (doMove (O.c V.l0))), (wB 11 (doMove (O.c V.l0)))]) s4_59)
noncomputable abbrev s4_61 : CC := (CC.seq (CC.region [(wB 9 (doMove (O.c (V.s 0 0))))]) s4_60)
noncomputable abbrev s4_62 : CC := (CC.seq s4_5 s4_61)
noncomputable abbrev s4_63 : CC := (CC.seq s4_2 s4_62)
noncomputable abbrev b4 : CC := (CC.seq (CC.region [(wB 8 (doMove (O.c (V.b Bool.false))))]) s4_63)
theorem c4 : compFn Try.prog 4 = ⟨208, b4, [(Rs.tmp (slOf 8))]⟩ := by kernel_rfl
noncomputable abbrev s5_0 : CC := (CC.seq (CC.region [(wB 2 (doMove (O.c (V.b Bool.false))))]) CC.ret)
noncomputable abbrev s5_1 : CC := (CC.cond (tm 11) s5_0 CC.skip)
noncomputable abbrev s5_2 : CC := (CC.seq (CC.region [(wB 10 (doCall 7 [])), (wB 11 (doNot (tm 10)))]) s5_1)
noncomputable abbrev s5_3 : CC := (CC.seq (CC.region [(wB 2 (doMove (O.c (V.b Bool.true))))]) CC.ret)
noncomputable abbrev s5_4 : CC := (CC.cond (tm 14) s5_3 CC.skip)
noncomputable abbrev s5_5 : CC := (CC.seq (CC.region [(wB 12 (doMove (tm 0))), (wB 13 (doLen (tm 12))), (wB 14 (bin2 fGtr (tm 13) (oN 30)))]) s5_4)
noncomputable abbrev s5_6 : CC := (CC.cond (tm 18) CC.skip (CC.exit 0))
noncomputable abbrev s5_7 : CC := (CC.seq (CC.region [(wB 15 (doMove (tm 5))), (wB 16 (doMove (tm 0))), (wB 17 (doLen (tm 16))), (wB 18 (bin2 fLss (tm 15) (tm 17)))]) s5_6)
noncomputable abbrev s5_8 : CC := (CC.region [(wB 31 (doMove (tm 3))), (wB 32 (doMove (tm 6))), (wB 33 (bin2 fAdd (oN 97) (tm 32))), (wB 34 (doConv IntKind.u8 (tm 33))), (wB 35 (doBuildSlice 5 1 [(V.i IntKind.u8 (Int.ofNat 0))] [(Pt.mk 0 1 (tm 34))])), (wB 36 (doB2S (tm 35))), (wB 37 (doMove (tm 5))), (wB 38 (bin2 fAdd (oN 65) (tm 37))), (wB 39 (doConv IntKind.u8 (tm 38))), (wB 40 (doBuildSlice 5 1 [(V.i IntKind.u8 (Int.ofNat 0))] [(Pt.mk 0 1 (tm 39))])), (wB 41 (doB2S (tm 40))), (wB 42 (doBuild [(V.s 0 0), (V.b Bool.false), (V.s 0 0)] [(Pt.mk 0 1 (tm 36)), (Pt.mk 2 1 (tm 41))])), (wB 43 (doBuildSlice 49 1 [(V.s 0 0), (V.b Bool.false), (V.s 0 0)] [(Pt.mk 0 3 (tm 42))])), (wB 44 (doAppend 49 3 (tm 31) (tm 43))), (wB 3 (doMove (tm 44)))])
noncomputable abbrev s5_9 : CC := (CC.seq (CC.region [(wB 27 (doMove (tm 6))), (wB 28 (doMove (tm 5))), (wB 29 (bin2 fAdd (tm 28) (oN 1))), (wB 30 (doIndexAddrArr 8 1 (tm 4) (tm 27))), (CO.mk G.none D.none Bool.true (CR.mk (doStore 1 (tm 30) (tm 29))))]) s5_8)
noncomputable abbrev s5_10 : CC := (CC.seq (CC.region [(wB 21 (doMove (tm 0))), (wB 22 (doMove (tm 5))), (wB 23 (doIndexAddr 1 (tm 21) (tm 22))), (wB 24 (doLoad (tm 23))), (wB 25 (doRem (tm 24) (O.c (V.i IntKind.u8 (Int.ofNat 8))))), (wB 26 (doConv IntKind.i64 (tm 25))), (wB 6 (doMove (tm 26)))]) s5_9)
noncomputable abbrev s5_11 : CC := (CC.block 1 s5_10)
noncomputable abbrev s5_12 : CC := (CC.region [(wB 19 (doMove (tm 5))), (wB 20 (bin2 fAdd (tm 19) (oN 1))), (wB 5 (doMove (tm 20)))])
noncomputable abbrev s5_13 : CC := (CC.seq s5_11 s5_12)
noncomputable abbrev l5_0 : CC := (CC.seq s5_7 s5_13)
noncomputable abbrev s5_14 : CC := (CC.loop l5_0)
noncomputable abbrev s5_15 : CC := (CC.block 0 s5_14)
noncomputable abbrev s5_16 : CC := (CC.seq (CC.region [(wB 5 (doMove (oN 0)))]) s5_15)
noncomputable abbrev s5_17 : CC := (CC.cond (tm 48) CC.skip (CC.exit 2))
noncomputable abbrev s5_18 : CC := (CC.seq (CC.region [(wB 47 (doMove (tm 9))), (wB 48 (bin2 fLss (tm 47) (oN 8)))]) s5_17)
noncomputable abbrev s5_19 : CC := (CC.cond (tm 54) (CC.exit 3) CC.skip)
noncomputable abbrev s5_20 : CC := (CC.seq (CC.region [(wB 51 (doMove (tm 9))), (wB 52 (doIndexAddrArr 8 1 (tm 4) (tm 51))), (wB 53 (doLoad (tm 52))), (wB 54 (bin2 fEql (tm 53) (oN 0)))]) s5_19)
noncomputable abbrev s5_21 : CC := (CC.seq (CC.region [(wB 2 (doMove (O.c (V.b Bool.false))))]) CC.ret)
noncomputable abbrev s5_22 : CC := (CC.cond (tm 72) s5_21 CC.skip)
noncomputable abbrev s5_23 : CC := (CC.seq (CC.draws [(uB 55 (doMove (tm 8))), (uB 56 (doMove (tm 7))), (uB 57 (doLen (tm 56))), (uB 58 (bin2 fGeq (tm 55) (tm 57))), (uB 59 (doMove (tm 58))), (uG 59 false 60 (doMove (tm 7))), (uG 59 false 61 (doMove (tm 8))), (uG 59 false 62 (doIndexAddr 3 (tm 60) (tm 61))), (uG 59 false 63 (doLoadA 3 (tm 62))), (uG 59 false 64 (doMove (tm 3))), (uG 59 false 65 (doMove (tm 9))), (uG 59 false 66 (doIndexAddrArr 8 1 (tm 4) (tm 65))), (uG 59 false 67 (doLoad (tm 66))), (uG 59 false 68 (bin2 fSub (tm 67) (oN 1))), (uG 59 false 69 (doIndexAddr 3 (tm 64) (tm 68))), (uG 59 false 70 (doLoadA 3 (tm 69))), (uG 59 false 71 (doSEq [KD.s, KD.b, KD.s] Bool.true (tm 63) (tm 70))), (uB 72 (doPick (tm 59) (O.c (V.b Bool.true)) (tm 71)))]) s5_22)
noncomputable abbrev s5_24 : CC := (CC.region [(wB 73 (doMove (tm 8))), (wB 74 (bin2 fAdd (tm 73) (oN 1))), (wB 8 (doMove (tm 74)))])
noncomputable abbrev s5_25 : CC := (CC.seq s5_23 s5_24)
noncomputable abbrev s5_26 : CC := (CC.seq s5_20 s5_25)
noncomputable abbrev s5_27 : CC := (CC.block 3 s5_26)
noncomputable abbrev s5_28 : CC := (CC.region [(wB 49 (doMove (tm 9))), (wB 50 (bin2 fAdd (tm 49) (oN 1))), (wB 9 (doMove (tm 50)))])
noncomputable abbrev s5_29 : CC := (CC.seq s5_27 s5_28)
noncomputable abbrev l5_1 : CC := (CC.seq s5_18 s5_29)
noncomputable abbrev s5_30 : CC := (CC.loop l5_1)
noncomputable abbrev s5_31 : CC := (CC.block 2 s5_30)
noncomputable abbrev s5_32 : CC := (CC.seq (CC.region [(wB 9 (doMove (oN 0)))]) s5_31)
noncomputable abbrev s5_33 : CC := (CC.seq (CC.region [(wB 75 (doMove (tm 8))), (wB 76 (doMove (tm 7))), (wB 77 (doLen (tm 76))), (wB 78 (bin2 fEql (tm 75) (tm 77))), (wB 79 (doMove (tm 78))), (wG 79 true 80 (doMove (tm 7))), (wG 79 true 81 (doCall 15 [(tm 80)])), (wB 82 (doPick (tm 79) (tm 81) (O.c (V.b Bool.false)))), (wB 2 (doMove (tm 82)))]) CC.ret)
noncomputable abbrev s5_34 : CC := (CC.seq s5_32 s5_33)
noncomputable abbrev s5_35 : CC := (CC.seq (CC.region [(wB 8 (doMove (oN 0)))]) s5_34)
noncomputable abbrev s5_36 : CC := (CC.seq (CC.region [(wB 45 (doMove (tm 3))), (wB 46 (doCall 18 [(tm 45)])), (wB 7 (doMove (tm 46)))]) s5_35)
noncomputable abbrev s5_37 : CC := (CC.seq s5_16 s5_36)
noncomputable abbrev s5_38 : CC := (CC.seq (CC.region [(wB 4 (doAlloc 47 [(V.i IntKind.i64 (Int.ofNat 0)), (V.i IntKind.i64 (Int.ofNat 0)), (V.i IntKind.i64 (Int.ofNat 0)), (V.i IntKind.i64 (Int.ofNat 0)), (V.i IntKind.i64 (Int.ofNat 0)), (V.i IntKind.i64 (Int.ofNat 0)), (V.i IntKind.i64 (Int.ofNat 0)), (V.i IntKind.i64 (Int.ofNat 0))]))]) s5_37)
noncomputable abbrev s5_39 : CC := (CC.seq (CC.region [(wB 3 (doMove (O.c V.l0)))]) s5_38)
noncomputable abbrev s5_40 : CC := (CC.seq s5_5 s5_39)
noncomputable abbrev s5_41 : CC := (CC.seq s5_2 s5_40)
noncomputable abbrev b5 : CC := (CC.seq (CC.region [(wB 2 (doMove (O.c (V.b Bool.false))))]) s5_41)
theorem c5 : compFn Try.prog 5 = ⟨83, b5, [(Rs.tmp (slOf 2))]⟩ := by kernel_rfl
noncomputable abbrev s6_0 : CC := (CC.seq (CC.region [(wB 6 (doMove (O.c (V.b Bool.false))))]) CC.ret)
noncomputable abbrev s6_1 : CC := (CC.cond (tm 16) s6_0 CC.skip)
noncomputable abbrev s6_2 : CC := (CC.seq (CC.region [(wB 15 (doCall 7 [])), (wB 16 (doNot (tm 15)))]) s6_1)
noncomputable abbrev s6_3 : CC := (CC.cond (tm 23) CC.skip (CC.exit 0))
noncomputable abbrev s6_4 : CC := (CC.seq (CC.region [(wB 21 (doMove (tm 9))), (wB 22 (doMove (tm 7))), (wB 23 (bin2 fLss (tm 21) (tm 22)))]) s6_3)
noncomputable abbrev s6_5 : CC := (CC.region [(wB 26 (doMove (tm 8))), (wB 27 (doMove (tm 9))), (wB 28 (bin2 fAdd (oN 97) (tm 27))), (wB 29 (doConv IntKind.u8 (tm 28))), (wB 30 (doBuildSlice 5 1 [(V.i IntKind.u8 (Int.ofNat 0))] [(Pt.mk 0 1 (tm 29))])), (wB 31 (doB2S (tm 30))), (wB 32 (doBuild [(V.s 0 0), (V.b Bool.false), (V.s 0 0)] [(Pt.mk 0 1 (tm 31)), (Pt.mk 2 1 (O.c (V.s 1 118)))])), (wB 33 (doBuildSlice 49 1 [(V.s 0 0), (V.b Bool.false), (V.s 0 0)] [(Pt.mk 0 3 (tm 32))])), (wB 34 (doAppend 49 3 (tm 26) (tm 33))), (wB 8 (doMove (tm 34)))])
noncomputable abbrev s6_6 : CC := (CC.block 1 s6_5)
noncomputable abbrev s6_7 : CC := (CC.region [(wB 24 (doMove (tm 9))), (wB 25 (bin2 fAdd (tm 24) (oN 1))), (wB 9 (doMove (tm 25)))])
noncomputable abbrev s6_8 : CC := (CC.seq s6_6 s6_7)
noncomputable abbrev l6_0 : CC := (CC.seq s6_4 s6_8)
noncomputable abbrev s6_9 : CC := (CC.loop l6_0)
noncomputable abbrev s6_10 : CC := (CC.block 0 s6_9)
noncomputable abbrev s6_11 : CC := (CC.seq (CC.region [(wB 9 (doMove (oN 0)))]) s6_10)
noncomputable abbrev s6_12 : CC := (CC.seq (CC.region [(wB 6 (doMove (O.c (V.b Bool.false))))]) CC.ret)
noncomputable abbrev s6_13 : CC := (CC.cond (tm 68) s6_12 CC.skip)
noncomputable abbrev s6_14 : CC := (CC.seq (CC.region [(wB 49 (doMove (tm 8))), (wB 50 (doCall 15 [(tm 49)])), (wB 51 (doMove (tm 10))), (wB 52 (doBool Bool.true (tm 50) (tm 51))), (wB 53 (doMove (tm 52))), (wG 53 false 54 (doMove (tm 12))), (wG 53 false 55 (bin2 fEql (tm 54) (oN 0))), (wG 53 false 56 (doMove (tm 10))), (wG 53 false 57 (doMove (tm 56))), (wG 57 true 58 (doMove (tm 13))), (wG 53 false 59 (doPick (tm 57) (tm 58) (O.c (V.b Bool.false)))), (wG 53 false 60 (doBool Bool.true (tm 55) (tm 59))), (wB 61 (doPick (tm 53) (O.c (V.b Bool.true)) (tm 60))), (wB 62 (doMove (tm 61))), (wG 62 false 63 (doMove (tm 11))), (wG 62 false 64 (doSCmp eqS (tm 63) (O.c (V.s 0 0)))), (wG 62 false 65 (doMove (tm 12))), (wG 62 false 66 (bin2 fNeq (tm 65) (oN 0))), (wG 62 false 67 (doBool Bool.true (tm 64) (tm 66))), (wB 68 (doPick (tm 62) (O.c (V.b Bool.true)) (tm 67)))]) s6_13)
noncomputable abbrev s6_15 : CC := (CC.seq (CC.region [(wB 6 (doMove (O.c (V.b Bool.false))))]) CC.ret)
noncomputable abbrev s6_16 : CC := (CC.cond (tm 106) s6_15 CC.skip)
noncomputable abbrev s6_17 : CC := (CC.seq (CC.region [(wB 92 (doMove (tm 8))), (wB 93 (doCall 15 [(tm 92)])), (wB 94 (doMove (tm 93))), (wG 94 false 95 (doMove (tm 8))), (wG 94 false 96 (doCall 21 [(oN 1), (tm 95)])), (wG 94 false 97 (doLen (tm 96))), (wG 94 false 98 (bin2 fNeq (tm 97) (oN 0))), (wB 99 (doPick (tm 94) (O.c (V.b Bool.true)) (tm 98))), (wB 100 (doMove (tm 99))), (wG 100 false 101 (doMove (tm 8))), (wG 100 false 102 (doCall 18 [(tm 101)])), (wG 100 false 103 (doLen (tm 102))), (wG 100 false 104 (doMove (tm 7))), (wG 100 false 105 (bin2 fNeq (tm 103) (tm 104))), (wB 106 (doPick (tm 100) (O.c (V.b Bool.true)) (tm 105)))]) s6_16)
noncomputable abbrev s6_18 : CC := (CC.seq (CC.draws [(uB 76 (doMove (tm 8))), (uB 77 (doMove (tm 14))), (uB 78 (doMove (tm 8))), (uB 79 (doMove (tm 14))), (uB 80 (bin2 fAdd (tm 79) (oN 1))), (uB 81 (doMove (tm 8))), (uB 82 (doMove (tm 14))), (uB 83 (bin2 fAdd (tm 82) (oN 1))), (uB 84 (doIndexAddr 3 (tm 81) (tm 83))), (uB 85 (doLoadA 3 (tm 84))), (uB 86 (doMove (tm 8))), (uB 87 (doMove (tm 14))), (uB 88 (doIndexAddr 3 (tm 86) (tm 87))), (uB 89 (doLoadA 3 (tm 88))), (uB 90 (doIndexAddr 3 (tm 76) (tm 77))), (CO.mk G.none D.none Bool.true (CR.mk (doStore 3 (tm 90) (tm 85)))), (uB 91 (doIndexAddr 3 (tm 78) (tm 80))), (CO.mk G.none D.none Bool.true (CR.mk (doStore 3 (tm 91) (tm 89))))]) s6_17)
noncomputable abbrev s6_19 : CC := (CC.seq (CC.region [(wB 71 (doMove (tm 2))), (wB 72 (doConv IntKind.i64 (tm 71))), (wB 73 (doMove (tm 7))), (wB 74 (bin2 fSub (tm 73) (oN 1))), (wB 75 (doRem (tm 72) (tm 74))), (wB 14 (doMove (tm 75)))]) s6_18)
noncomputable abbrev s6_20 : CC := (CC.cond (tm 70) s6_19 CC.skip)
noncomputable abbrev s6_21 : CC := (CC.seq (CC.region [(wB 69 (doMove (tm 7))), (wB 70 (bin2 fGtr (tm 69) (oN 1)))]) s6_20)
noncomputable abbrev s6_22 : CC := (CC.seq (CC.region [(wB 6 (doMove (O.c (V.b Bool.true))))]) CC.ret)
noncomputable abbrev s6_23 : CC := (CC.seq s6_21 s6_22)
noncomputable abbrev s6_24 : CC := (CC.seq s6_14 s6_23)
noncomputable abbrev s6_25 : CC := (CC.seq (CC.region [(wB 43 (doMove (tm 1))), (wB 44 (bin2 fGeq (tm 43) (oN 1))), (wB 45 (doMove (tm 44))), (wG 45 true 46 (doMove (tm 1))), (wG 45 true 47 (bin2 fLeq (tm 46) (oN 1000000))), (wB 48 (doPick (tm 45) (tm 47) (O.c (V.b Bool.false)))), (wB 13 (doMove (tm 48)))]) s6_24)
noncomputable abbrev s6_26 : CC := (CC.seq (CC.region [(wB 38 (doMove (tm 1))), (wB 39 (doMove (tm 8))), (wB 40 (doCall 9 [(tm 38), (tm 39)])), (wB 37 (doMove (tm 40))), (wB 41 (doExtract 0 (tm 37))), (wB 42 (doExtract 1 (tm 37))), (wB 11 (doMove (tm 41))), (wB 12 (doMove (tm 42)))]) s6_25)
noncomputable abbrev s6_27 : CC := (CC.seq (CC.region [(wB 35 (doMove (tm 7))), (wB 36 (bin2 fLeq (tm 35) (oN 8))), (wB 10 (doMove (tm 36)))]) s6_26)
noncomputable abbrev s6_28 : CC := (CC.seq s6_11 s6_27)
noncomputable abbrev s6_29 : CC := (CC.seq (CC.region [(wB 8 (doMove (O.c V.l0)))]) s6_28)
noncomputable abbrev s6_30 : CC := (CC.seq (CC.region [(wB 17 (doMove (tm 0))), (wB 18 (doRem (tm 17) (O.c (V.i IntKind.u8 (Int.ofNat 11))))), (wB 19 (doConv IntKind.i64 (tm 18))), (wB 20 (bin2 fAdd (tm 19) (oN 1))), (wB 7 (doMove (tm 20)))]) s6_29)
noncomputable abbrev s6_31 : CC := (CC.seq s6_2 s6_30)
noncomputable abbrev b6 : CC := (CC.seq (CC.region [(wB 6 (doMove (O.c (V.b Bool.false))))]) s6_31)
theorem c6 : compFn Try.prog 6 = ⟨107, b6, [(Rs.tmp (slOf 6))]⟩ := by kernel_rfl
end Go.Proofs.Ythncpgkpkdolfaa

set_option maxRecDepth 100000
set_option maxHeartbeats 8000000
set_option linter.all false
namespace Go.Proofs.Ythncpgkpkdolfaa
open Go Go.Ev
theorem fewW_len {L : List Wri} (h : fewW L = true) : L.length ≤ 20 := by
  unfold fewW at h; rw [Bool.and_eq_true] at h; exact of_decide_eq_true h.2
theorem fewW_key {L : List Wri} (h : fewW L = true) : ∀ w ∈ L, w.key.length ≤ 20 ∧ w.val.length ≤ 40 := fun w hw => by
  unfold fewW at h; rw [Bool.and_eq_true] at h
  have := (List.all_eq_true.1 h.1) w hw
  unfold okW at this; rw [Bool.and_eq_true] at this
  exact ⟨of_decide_eq_true this.1, of_decide_eq_true this.2⟩
theorem readR_len' (s : List UInt8) : (readR s).2.1.length ≤ 8 := by
  have hz : ∀ (e : Int), ((0 : Int), ([] : List Wri), (0 : Int), e).2.1.length ≤ 8 := fun e => by simp
  rcases openB_range s with e | e | ⟨b, n, e, n1, n2, n3⟩
  · unfold readR; rw [e]; simp
  · unfold readR; rw [e]; simp
  · rcases takeN_range b with (e1 | e1) | ⟨q, k, e1, q1, k1, k2, k3⟩
    · rw [readR_num e (by rw [e1]; simp)]; simp
    · rw [readR_num e (by rw [e1]; simp)]; simp
    · have ht8 := takeR_len (s := b.drop k)
      cases ht : takeR (b.drop k) with
      | none => rw [readR_eq e e1, ht]; simp
      | some l =>
        rw [ht] at ht8
        have hr : readR s = if (bytB q l).2 = 0 ∧ (bytB q l).1 = s.take n then ((q : Int), l, (n : Int), (0 : Int)) else (0, [], 0, 10) := by rw [readR_eq e e1, ht]
        rw [hr]; split
        · exact ht8
        · simp
theorem logF_len : ∀ (k : Nat) (f : Bool) (z : Int) (s : List UInt8), (logF k f z s).1.length ≤ 8 * k
  | 0, _, _, _ => by simp [logF]
  | k + 1, f, z, s => by
    unfold logF
    split
    · simp
    · have h1 := logF_len k false (readR s).1 (s.drop (readR s).2.2.1.toNat)
      have h2 := (entB_len (readR s).1 (readR s).2.1).2
      simp only [List.length_append]; omega
theorem batchTells_ok {h : H} {v : V} {L : List Wri} {seq : Int} {s : List UInt8} (hL : Ws h v L) (hw : SwN 3 v) (hl : L.length ≤ 9223372036854775807) (q1 : -9223372036854775808 ≤ seq) (q2 : seq ≤ 9223372036854775807) (hs : s.length ≤ 9223372036854775807) (hf : B.val h.floor ≤ B.val h.next) :
    FnOk Try.prog 3 [v, .i .i64 seq, sv s] h fun y h' => y = .b true ∧ Stay nowhere h h' := by
  refine fn_go c3 (by intro hb; cases hb) (by simp) (by simp) fun Q hQ => ?_
  simp only [slotsF, Nat.reduceAdd]
  repeat' (first
    | refine St.h ?_
    | simp (disch := first | omega | (simp only [lnv]; omega)) only [wlk, ↓get_put', ↓reduceIte, seval]
    | (with_reducible (first | apply cd_split | apply gd_split)) <;> (intro hc; (try simp only [hcn] at hc); (try simp only [hc]); (try simp only [hcl] at hc); try omega))
  refine CL.pure known12 ?_
  repeat' (first
    | refine St.h ?_
    | simp (disch := first | omega | (simp only [lnv]; omega)) only [wlk, ↓get_put', ↓reduceIte, seval]
    | (with_reducible (first | apply cd_split | apply gd_split)) <;> (intro hc; (try simp only [hcn] at hc); (try simp only [hc]); (try simp only [hcl] at hc); try omega))
  refine CL.pure (few12_ok hL hl) ?_
  cases hfw : fewW L with
  | false =>
    repeat' (first
      | refine St.h ?_
      | simp (disch := first | omega | (simp only [lnv]; omega)) only [wlk, ↓get_put', ↓reduceIte, seval]
      | (with_reducible (first | apply cd_split | apply gd_split)) <;> (intro hc; (try simp only [hcn] at hc); (try simp only [hc]); (try simp only [hcl] at hc); try omega))
    subst hQ
    exact ⟨rfl, Stay.refl _ _⟩
  | true =>
  have hl2 := fewW_len hfw
  by_cases hs2 : 1500 < s.length
  · have hc : ((1500 : Int) < (s.length : Int)) = True := eq_true (by omega)
    repeat' (first
      | refine St.h ?_
      | simp (disch := first | omega | (simp only [lnv]; omega)) only [wlk, ↓get_put', ↓reduceIte, seval, hc]
      | (with_reducible (first | apply cd_split | apply gd_split)) <;> (intro hc; (try simp only [hcn] at hc); (try simp only [hc]); (try simp only [hcl] at hc); try omega))
    subst hQ
    exact ⟨rfl, Stay.refl _ _⟩
  have hc : ((1500 : Int) < (s.length : Int)) = False := eq_false (by omega)
  repeat' (first
    | refine St.h ?_
    | simp (disch := first | omega | (simp only [lnv]; omega)) only [wlk, ↓get_put', ↓reduceIte, seval, hc]
    | (with_reducible (first | apply cd_split | apply gd_split)) <;> (intro hc; (try simp only [hcn] at hc); (try simp only [hc]); (try simp only [hcl] at hc); try omega))
  refine CL.stay (bbytes_ok hL (by omega) q1 q2 hf) fun h1 s1 => ?_
  have f1 := s1.fl hf
  have L1 := hL.grow s1
  repeat' (first
    | refine St.h ?_
    | simp (disch := first | omega | (simp only [lnv]; omega)) only [wlk, ↓get_put', ↓reduceIte, seval]
    | (with_reducible (first | apply cd_split | apply gd_split)) <;> (intro hc; (try simp only [hcn] at hc); (try simp only [hc]); (try simp only [hcl] at hc); try omega))
  refine CL.stay (rbytes12_ok L1 (by omega) q1 q2 f1) fun h2 s2 => ?_
  have f2 := s2.fl f1
  have L2 := L1.grow s2
  repeat' (first
    | refine St.h ?_
    | simp (disch := first | omega | (simp only [lnv]; omega)) only [wlk, ↓get_put', ↓reduceIte, seval]
    | (with_reducible (first | apply cd_split | apply gd_split)) <;> (intro hc; (try simp only [hcn] at hc); (try simp only [hc]); (try simp only [hcl] at hc); try omega))
  refine CL.mk (bread_ok12 (s := s) (by omega) f2) ?_
  rintro _ h3 ⟨u3, rfl, w3, s3⟩
  have f3 := s3.fl f2
  have L3 := L2.grow s3
  repeat' (first
    | refine St.h ?_
    | simp (disch := first | omega | (simp only [lnv]; omega)) only [wlk, ↓get_put', ↓reduceIte, seval, rdV]
    | (with_reducible (first | apply cd_split | apply gd_split)) <;> (intro hc; (try simp only [hcn] at hc); (try simp only [hc]); (try simp only [hcl] at hc); try omega))
  refine CL.mk (rread12_ok (s := s) (by omega) f3) ?_
  rintro _ h4 ⟨u4, rfl, w4, _, s4⟩
  have f4 := s4.fl f3
  have L4 := L3.grow s4
  have w3 := w3.grow s4
  repeat' (first
    | refine St.h ?_
    | simp (disch := first | omega | (simp only [lnv]; omega)) only [wlk, ↓get_put', ↓reduceIte, seval, rdV]
    | (with_reducible (first | apply cd_split | apply gd_split)) <;> (intro hc; (try simp only [hcn] at hc); (try simp only [hc]); (try simp only [hcl] at hc); try omega))
  refine CL.mk (blog_ok (s := s) (by omega) f4) ?_
  rintro _ h5 ⟨u5, rfl, w5, _, s5⟩
  have f5 := s5.fl f4
  have L5 := L4.grow s5
  have w3 := w3.grow s5
  have w4 := w4.grow s5
  repeat' (first
    | refine St.h ?_
    | simp (disch := first | omega | (simp only [lnv]; omega)) only [wlk, ↓get_put', ↓reduceIte, seval]
    | (with_reducible (first | apply cd_split | apply gd_split)) <;> (intro hc; (try simp only [hcn] at hc); (try simp only [hc]); (try simp only [hcl] at hc); try omega))
  refine CL.mk (rlog_ok (s := s) (by omega) f5) ?_
  rintro _ h6 ⟨u6, rfl, w6, _, _, s6⟩
  have f6 := s6.fl f5
  have L6 := L5.grow s6
  have w3 := w3.grow s6
  have w4 := w4.grow s6
  have w5 := w5.grow s6
  repeat' (first
    | refine St.h ?_
    | simp (disch := first | omega | (simp only [lnv]; omega)) only [wlk, ↓get_put', ↓reduceIte, seval]
    | (with_reducible (first | apply cd_split | apply gd_split)) <;> (intro hc; (try simp only [hcn] at hc); (try simp only [hc]); (try simp only [hcl] at hc); try omega))
  refine CL.stay (bis_ok L6 (by omega) f6) fun h7 s7 => ?_
  have f7 := s7.fl f6
  have L7 := L6.grow s7
  repeat' (first
    | refine St.h ?_
    | simp (disch := first | omega | (simp only [lnv]; omega)) only [wlk, ↓get_put', ↓reduceIte, seval]
    | (with_reducible (first | apply cd_split | apply gd_split)) <;> (intro hc; (try simp only [hcn] at hc); (try simp only [hc]); (try simp only [hcl] at hc); try omega))
  refine CL.stay (ris12_ok L7 (by omega) f7) fun h8 s8 => ?_
  have f8 := s8.fl f7
  have L8 := L7.grow s8
  have e8 : (!xor (xor (isB L) (isB L)) true) = false := by cases isB L <;> rfl
  have e8' : xor (xor (isB L) (isB L)) true = true := by cases isB L <;> rfl
  repeat' (first
    | refine St.h ?_
    | simp (disch := first | omega | (simp only [lnv]; omega)) only [wlk, ↓get_put', ↓reduceIte, seval, e8, e8']
    | (with_reducible (first | apply cd_split | apply gd_split)) <;> (intro hc; (try simp only [hcn] at hc); (try simp only [hc]); (try simp only [hcl] at hc); try omega))
  refine CL.mk (bneat_ok L8 hw (by omega) (fun w hw => by have := (fewW_key hfw w hw).1; omega) f8) ?_
  rintro u9 h9 ⟨w9, _, s9⟩
  have f9 := s9.fl f8
  have L9 := L8.grow s9
  have hnl : (neatB L).length ≤ L.length := by have := neatB_len (L := L) (Nat.le_refl _); rwa [List.take_length] at this
  repeat' (first
    | refine St.h ?_
    | simp (disch := first | omega | (simp only [lnv]; omega)) only [wlk, ↓get_put', ↓reduceIte, seval]
    | (with_reducible (first | apply cd_split | apply gd_split)) <;> (intro hc; (try simp only [hcn] at hc); (try simp only [hc]); (try simp only [hcl] at hc); try omega))
  refine CL.mk (rneat_ok L9 (by omega) (fun j hj => Nat.le_trans (neatB_len hj) hj) f9) ?_
  rintro u10 h10 ⟨w10, _, s10⟩
  have f10 := s10.fl f9
  have L10 := L9.grow s10
  repeat' (first
    | refine St.h ?_
    | simp (disch := first | omega | (simp only [lnv]; omega)) only [wlk, ↓get_put', ↓reduceIte, seval]
    | (with_reducible (first | apply cd_split | apply gd_split)) <;> (intro hc; (try simp only [hcn] at hc); (try simp only [hc]); (try simp only [hcl] at hc); try omega))
  refine CL.pure (rsame12_ok (w9.grow s10) w10 (by omega) (by omega)) ?_
  have s610 := (((s7.trans s8).trans s9).trans s10)
  have hrl := readR_len' s
  have hll := logF_len s.length true 0 s
  have hll : (logB s).1.length ≤ 8 * s.length := hll
  have dN : decide (neatB L = neatB L) = true := decide_eq_true rfl
  have dR : decide ((readR s).2.1 = (readR s).2.1) = true := decide_eq_true rfl
  have dL : decide ((logB s).1 = (logB s).1) = true := decide_eq_true rfl
  have dE : decide (entB seq L = entB seq L) = true := decide_eq_true rfl
  repeat' (first
    | refine St.h ?_
    | simp (disch := first | omega | (simp only [lnv]; omega)) only [wlk, ↓get_put', ↓reduceIte, seval, dN]
    | (with_reducible (first | apply cd_split | apply gd_split)) <;> (intro hc; (try simp only [hcn] at hc); (try simp only [hc]); (try simp only [hcl] at hc); try omega))
  refine CL.pure (rsame12_ok (w3.grow s610) (w4.grow s610) (by omega) (by omega)) ?_
  repeat' (first
    | refine St.h ?_
    | simp (disch := first | omega | (simp only [lnv]; omega)) only [wlk, ↓get_put', ↓reduceIte, seval, dR]
    | (with_reducible (first | apply cd_split | apply gd_split)) <;> (intro hc; (try simp only [hcn] at hc); (try simp only [hc]); (try simp only [hcl] at hc); try omega))
  refine CL.pure (rsame_ok (w5.grow s610) (w6.grow s610) (by omega)) ?_
  repeat' (first
    | refine St.h ?_
    | simp (disch := first | omega | (simp only [lnv]; omega)) only [wlk, ↓get_put', ↓reduceIte, seval, dL]
    | (with_reducible (first | apply cd_split | apply gd_split)) <;> (intro hc; (try simp only [hcn] at hc); (try simp only [hc]); (try simp only [hcl] at hc); try omega))
  refine CL.mk (bentries_ok (seq := seq) L10 (by omega) f10) ?_
  rintro u11 h11 ⟨w11, _, s11⟩
  have f11 := s11.fl f10
  repeat' (first
    | refine St.h ?_
    | simp (disch := first | omega | (simp only [lnv]; omega)) only [wlk, ↓get_put', ↓reduceIte, seval]
    | (with_reducible (first | apply cd_split | apply gd_split)) <;> (intro hc; (try simp only [hcn] at hc); (try simp only [hc]); (try simp only [hcl] at hc); try omega))
  refine CL.mk (rentries_ok (seq := seq) (L10.grow s11) (by omega) f11) ?_
  rintro u12 h12 ⟨w12, _, _, s12⟩
  have hel := (entB_len seq L).2
  repeat' (first
    | refine St.h ?_
    | simp (disch := first | omega | (simp only [lnv]; omega)) only [wlk, ↓get_put', ↓reduceIte, seval]
    | (with_reducible (first | apply cd_split | apply gd_split)) <;> (intro hc; (try simp only [hcn] at hc); (try simp only [hc]); (try simp only [hcl] at hc); try omega))
  refine CL.pure (rsame_ok (w11.grow s12) w12 (by omega)) ?_
  repeat' (first
    | refine St.h ?_
    | simp (disch := first | omega | (simp only [lnv]; omega)) only [wlk, ↓get_put', ↓reduceIte, seval, dE]
    | (with_reducible (first | apply cd_split | apply gd_split)) <;> (intro hc; (try simp only [hcn] at hc); (try simp only [hc]); (try simp only [hcl] at hc); try omega))
  subst hQ
  exact ⟨rfl, (((((((s1.trans s2).trans s3).trans s4).trans s5).trans s6).trans s610).trans s11).trans s12⟩
end Go.Proofs.Ythncpgkpkdolfaa

set_option linter.all false
namespace Go.Proofs.Ythncpgkpkdolfaa
open Go Go.Ev
structure Wk where
  v : V
  l : List Wri
instance : Inhabited Wk := ⟨⟨.l0, []⟩⟩
def wkC (b : Wk) : List V := [b.v]
theorem wkC_len (b : Wk) : (wkC b).length = 1 := rfl
structure Wls (h : H) (v : V) (bs : List (List Wri)) (ks : List Wk) : Prop where
  ss : Ss 1 wkC h v ks
  eq : ks.map (·.l) = bs
  es : ∀ k ∈ ks, Ws h k.v k.l ∧ SwN 3 k.v
section
variable {P : Program} {h h' g' : H} {N : Nx} {v : V} {bs : List (List Wri)} {ks : List Wk} {i : Nat}
theorem Wls.len (a : Wls h v bs ks) : ks.length = bs.length := by rw [← a.eq, List.length_map]
theorem Wls.ld (a : Wls h v bs ks) (hi : i < bs.length) : L1 P (lid v) (lg v) (loff v + i) (lfin v) h N = N.go P (ks.getD i default).v h := by
  have := a.ss.ld (P := P) (N := N) (i := i) (d := 0) wkC_len (by rw [a.len]; exact hi) (by omega)
  rwa [Nat.mul_one] at this
theorem Wls.grow (a : Wls h v bs ks) (s : Stay nowhere h h') : Wls h' v bs ks := ⟨a.ss.grow s, a.eq, fun k hk => ⟨(a.es k hk).1.grow s, (a.es k hk).2⟩⟩
theorem Wls.at (a : Wls h v bs ks) (hi : i < bs.length) : Ws h (ks.getD i default).v (bs.getD i []) ∧ SwN 3 (ks.getD i default).v := by
  have hk : i < ks.length := by rw [a.len]; exact hi
  have h1 := a.es (ks.getD i default) (by rw [List.getD_eq_getElem?_getD, List.getElem?_eq_getElem hk]; simp)
  have h2 : bs.getD i [] = (ks.getD i default).l := by rw [← a.eq]; simp [List.getD, List.getElem?_eq_getElem hk]
  rw [h2]; exact h1
end
end Go.Proofs.Ythncpgkpkdolfaa

set_option linter.all false
namespace Go.Ev
open Go Go.RowKit Go.WideShapes Go.ChangeShapes Go.ChangeAt Go.Deep
section
variable {H' : Type} {enc : TypeId × Value → H'} {P : Program}
inductive Kd where
  | i (k : IntKind)
  | s
  | b
def Kd.ok (P : Program) (k : Kd) (t : TypeId) : Prop := match k with
  | .i k => P.underlying t = some (.int k)
  | .s => P.underlying t = some .string
  | .b => P.underlying t = some .bool
def FldOk (P : Program) (l : List Field) : Nat → List Kd → Prop
  | _, [] => True
  | n, k :: ks => (∃ f, l[n]? = some f ∧ f.offset = n ∧ P.cellsOf f.type = 1 ∧ k.ok P f.type) ∧ FldOk P l (n + 1) ks
/-- a struct whose fields are numbers, texts, bools -/
structure FlatF (P : Program) (t : TypeId) (fs : Array Field) (ks : List Kd) : Prop where
  ut : P.underlying t = some (.struct fs)
  sz : P.cellsOf t = ks.length
  fld : FldOk P fs.toList 0 ks
def Kd.fit (k : Kd) (c : Value) : Prop := match k with
  | .i k => ∃ n, c = .int k n ∧ (Lit.int k n).wf = true
  | .s => ∃ s : ByteArray, c = .string s ∧ s.size ≤ maxLen
  | .b => ∃ q, c = .bool q
def Fits : List Kd → List Value → Prop
  | [], cs => cs = []
  | k :: ks, cs => ∃ c r, cs = c :: r ∧ k.fit c ∧ Fits ks r
theorem flat_fits {W : World} {t : TypeId} {fs : Array Field} {ks : List Kd} {fuel : Nat} {cs : List Value} {x : DataW H' × List MemPlace} (F : FlatF P t fs ks) (hd : DataW.trod enc P W 0 (fun _ => true) true fuel t cs = some x) : Fits ks cs := by
  have hf : cs.length = ks.length ∧ ∀ (i : Nat) f, fs.toList[i]? = some f → ∃ n y, DataW.trod enc P W 0 (fun _ => true) true n f.type ((cs.drop f.offset).take (P.cellsOf f.type)) = some y := by
    cases fuel with
    | zero => simp [DataW.trod] at hd
    | succ n =>
      unfold DataW.trod at hd
      rw [F.ut] at hd
      simp only at hd
      split at hd
      · rename_i hl
        refine ⟨hl.trans F.sz, fun i f hf => ?_⟩
        rw [Option.map_eq_some_iff] at hd
        obtain ⟨xs, hx, _⟩ := hd
        have := mapM_some_get hx i f hf
        have hlen := mapM_some_length hx
        have hi : i < xs.length := by rw [hlen]; exact (List.getElem?_eq_some_iff.1 hf).1
        exact ⟨n, xs[i], by rw [this]; simp⟩
      · cases hd
  obtain ⟨hl, hf⟩ := hf
  have go : ∀ (ks : List Kd) (n : Nat), FldOk P fs.toList n ks → cs.length = n + ks.length → Fits ks (cs.drop n) := by
    intro ks
    induction ks with
    | nil => intro n _ e; exact List.drop_eq_nil_of_le (by rw [e]; exact Nat.le_refl _)
    | cons k ks ih =>
      rintro n ⟨⟨f, g, o, c, u⟩, hr⟩ e
      have hlt : n < cs.length := by rw [e, List.length_cons]; omega
      have hc : cs.drop n = cs[n] :: cs.drop (n + 1) := List.drop_eq_getElem_cons hlt
      obtain ⟨m, y, h⟩ := hf n f g
      rw [o, c, hc] at h
      refine ⟨cs[n], cs.drop (n + 1), hc, ?_, ih (n + 1) hr (by rw [e, List.length_cons]; omega)⟩
      cases k with
      | i kd =>
        obtain ⟨z, e1, _, z1⟩ := DataW.trod_int u h
        exact ⟨z, (List.cons.inj e1).1, z1⟩
      | s =>
        obtain ⟨z, e1, _, z1⟩ := DataW.trod_string u h
        exact ⟨z, (List.cons.inj e1).1, z1⟩
      | b =>
        obtain ⟨z, e1, _⟩ := DataW.trod_bool u h
        exact ⟨z, (List.cons.inj e1).1⟩
  have := go ks 0 F.fld (by rw [hl, Nat.zero_add])
  rwa [List.drop_zero] at this
theorem absV_bool (W : World) (q : Bool) : absV W (.bool q) = .b q := by unfold absV; rfl
/-- a row of structs: c tells a struct's cells -/
theorem rows_of {α : Type} [Inhabited α] {c : α → List V} {n : Nat} {Pr : α → Prop} (hc : ∀ a, (c a).length = n) (hn : 1 ≤ n) {W : World} {h : H} (s : Start W h) (h0 : 0 < W.heap.size) {t e : TypeId} {fuel : Nat} {cs : List Value} {x : DataW H' × List MemPlace}
    (ht : P.underlying t = some (.slice e)) (sz : P.cellsOf e = n) (cell : ∀ (fuel : Nat) (cs : List Value) (x : DataW H' × List MemPlace), DataW.trod enc P W 0 (fun _ => true) true fuel e cs = some x → ∃ a, cs.map (absV W) = c a ∧ Pr a)
    (hd : DataW.trod enc P W 0 (fun _ => true) true fuel t cs = some x) : ∃ sv L, cs = [sv] ∧ Ss n c h (absV W sv) L ∧ L.length ≤ 9223372036854775807 ∧ ∀ a ∈ L, Pr a := by
  rcases open_slice ht hd with ⟨rfl, _⟩ | ⟨a, len, cap, m, nn, D, Pl, rfl, hb, hl, hm, hmm, _, hx⟩
  · exact ⟨_, [], rfl, .inl ⟨rfl, rfl⟩, by simp, fun e he => by cases he⟩
  simp only [if_true] at hmm
  rw [sz] at hx
  have hx' : ∀ i, i < len → ∃ E : α × List Value, E.2.map (absV W) = c E.1 ∧ Pr E.1 ∧ (∀ d y, E.2[d]? = some y → W.cell? ⟨a.block, a.off + i * n + d, none⟩ = some y) ∧ (0 < len → a.spot = none) := by
    intro i hi
    obtain ⟨cs', h1, h2⟩ := hx i (by omega)
    obtain ⟨z, e1, e2⟩ := cell _ _ _ h2
    have hlen' : cs'.length = n := by have := congrArg List.length e1; rwa [List.length_map, hc] at this
    obtain ⟨_, _, h3⟩ := World.cells?_some h1
    refine ⟨(z, cs'), e1, e2, fun d y hy => ?_, fun _ => ?_⟩
    · have hd : d < n := by have : d < cs'.length := (List.getElem?_eq_some_iff.1 hy).1; omega
      have hy : cs'[d]? = some y := hy
      have h4 := h3 d hd
      rw [hy] at h4
      have h5 := cell_add h4
      have e1 : (a.add (i * n)).block = a.block := by unfold Addr.add; split <;> rfl
      have e2 : (a.add (i * n)).off = a.off + i * n := by
        unfold Addr.add; split
        · rename_i hz; rw [hz]; rfl
        · rfl
      rw [e1, e2] at h5
      exact h5
    · obtain ⟨cs0, g1, g2⟩ := hx 0 (by omega)
      obtain ⟨z0, e3, _⟩ := cell _ _ _ g2
      have hl0 : cs0.length = n := by have := congrArg List.length e3; rwa [List.length_map, hc] at this
      obtain ⟨_, _, g3⟩ := World.cells?_some g1
      have g4 := g3 0 (by omega)
      rw [List.getElem?_eq_getElem (by omega)] at g4
      have g5 := World.cell?_spot g4
      unfold Addr.add at g5
      simpa using g5
  haveI : Inhabited (α × List Value) := ⟨(default, [])⟩
  obtain ⟨E, hE⟩ := choose_lt (α := α × List Value) (p := fun i r => r.2.map (absV W) = c r.1 ∧ Pr r.1 ∧ (∀ d y, r.2[d]? = some y → W.cell? ⟨a.block, a.off + i * n + d, none⟩ = some y) ∧ (0 < len → a.spot = none)) hx'
  have hL : ((List.range len).map fun i => (E i).1).length = len := by simp
  refine ⟨_, (List.range len).map fun i => (E i).1, rfl, ?_, by rw [hL]; exact maxLen_le (by omega), fun e he => ?_⟩
  · obtain ⟨b, off, spot⟩ := a
    cases len with
    | zero =>
      have e : absV W (.slice (some ⟨b, off, spot⟩) 0 cap) = .l (nb 0) 0 0 0 0 none := by unfold absV; simp only [if_pos h0]
      rw [e]
      exact .inr ⟨nb 0, 0, 0, 0, none, rfl, by simp, (s.blk 0 h0).1, fun hne => absurd rfl hne, fun i v hv => by simp at hv⟩
    | succ m =>
      have hs' : spot = none := (hE 0 (by omega)).2.2.2 (by omega)
      subst hs'
      have hcell : ∀ i, i < m + 1 → ∀ d y, (E i).2[d]? = some y → b < W.heap.size ∧ off + i * n + d < csz W b ∧ (∃ blk, h.heap.get (nb b) = some blk ∧ blk.min ≤ 0) ∧ Ev.cell h (nb b) 0 (off + i * n + d) = some (absV W y) :=
        fun i hi d y hy => s.cell ((hE i hi).2.2.1 d y hy)
      have hEl : ∀ i, i < m + 1 → (E i).2.length = n := fun i hi => by have := congrArg List.length (hE i hi).1; rwa [List.length_map, hc] at this
      obtain ⟨d1, d2, d3, d4⟩ := hcell m (by omega) (n - 1) _ (List.getElem?_eq_getElem (by rw [hEl m (by omega)]; omega))
      have e : absV W (.slice (some ⟨b, off, none⟩) (m + 1) cap) = .l (nb b) 0 off (m + 1) (csz W b) (some cap) := by unfold absV; simp only [if_pos (⟨d1, hl, Nat.lt_of_le_of_lt hm maxLen_lt⟩ : b < W.heap.size ∧ m + 1 ≤ cap ∧ cap < 18446744073709551616)]
      rw [e]
      have hmul : (m + 1) * n = m * n + n := by rw [Nat.add_mul, Nat.one_mul]
      refine .inr ⟨nb b, 0, off, csz W b, some cap, by rw [hL], by rw [hL, hmul]; omega, (s.blk b d1).1, fun _ => d3, fun j v hv => ?_⟩
      have hj : j < (((List.range (m + 1)).map fun i => (E i).1).flatMap c).length := (List.getElem?_eq_some_iff.1 hv).1
      rw [fm_len hc, hL] at hj
      obtain ⟨i, d, rfl, hd, hi⟩ : ∃ i d, j = i * n + d ∧ d < n ∧ i < m + 1 := ⟨j / n, j % n, by rw [Nat.mul_comm]; exact (Nat.div_add_mod j n).symm, Nat.mod_lt _ (by omega), Nat.div_lt_of_lt_mul (by rw [Nat.mul_comm]; exact hj)⟩
      rw [fm_get hc (by rw [hL]; exact hi) hd] at hv
      have hG : ((List.range (m + 1)).map fun i => (E i).1).getD i default = (E i).1 := by simp [List.getD, hi]
      have hy : (E i).2[d]? = some ((E i).2[d]'(by rw [hEl i hi]; exact hd)) := List.getElem?_eq_getElem _
      generalize (E i).2[d]'(by rw [hEl i hi]; exact hd) = y at hy
      rw [hG, ← (hE i hi).1] at hv
      have : ((E i).2.map (absV W)).getD d .u = absV W y := by simp [List.getD, hy]
      rw [this] at hv
      cases hv
      rw [← Nat.add_assoc]
      exact (hcell i hi d y hy).2.2.2
  · obtain ⟨i, hi, rfl⟩ := List.mem_map.1 he
    rw [List.mem_range] at hi
    exact (hE i hi).2.1
end
end Go.Ev

set_option linter.all false
namespace Go.Proofs.Ythncpgkpkdolfaa
open Go Go.Ev Go.RowKit Go.WideShapes Go.ChangeShapes Go.ChangeAt Go.Deep
theorem swn_absW {W : World} {h : H} {x : Value} {L : List Wri} (a : Ws h (absV W x) L) : SwN 3 (absV W x) := by
  have nol : ∀ v : V, Ws h v L → v ≠ .u := by
    rintro _ (⟨rfl, _⟩ | ⟨id, g, off, fin, cap, rfl, _⟩) <;> intro e <;> cases e
  have np : ∀ id g off fin, ¬ Ws h (.p id g off fin) L := by
    rintro id g off fin (⟨e, _⟩ | ⟨_, _, _, _, _, e, _⟩) <;> cases e
  revert a
  unfold absV
  split
  all_goals intro a
  all_goals first
    | exact .inl rfl
    | (exfalso; rcases a with ⟨e, _⟩ | ⟨_, _, _, _, _, e, _⟩ <;> cases e; done)
    | skip
  · split at a
    · exact absurd a (np _ _ _ _)
    · exact absurd rfl (nol _ a)
  · rename_i hh
    split at a
    · rename_i hb
      rw [if_pos hb]
      exact .inr ⟨_, _, _, _, _, _, rfl, hb.2.1, fun h => absurd hb.2.2 (Nat.not_lt.2 h)⟩
    · exact absurd rfl (nol _ a)
  · split at a
    · rename_i hb
      rw [if_pos hb]
      exact .inr ⟨_, _, _, _, _, _, rfl, rfl⟩
    · exact absurd rfl (nol _ a)
/-- a row of writes -/
theorem ws_of {H' : Type} {enc : TypeId × Value → H'} {P : Program} {W : World} {h : H} (s : Go.Ev.Start W h) (h0 : 0 < W.heap.size) {t e : TypeId} {fs : Array Field} {fuel : Nat} {cs : List Value} {x : DataW H' × List MemPlace} (ht : P.underlying t = some (.slice e)) (F : FlatF P e fs [.s, .b, .s])
    (hd : DataW.trod enc P W 0 (fun _ => true) true fuel t cs = some x) : ∃ sv L, cs = [sv] ∧ Ws h (absV W sv) L ∧ L.length ≤ 9223372036854775807 ∧ ∀ a ∈ L, True :=
  rows_of (c := wriC) (Pr := fun _ => True) wriC_len (by omega) s h0 ht F.sz (fun fuel cs x h => by
    obtain ⟨_, _, rfl, ⟨a, rfl, _⟩, _, _, rfl, ⟨b, rfl⟩, _, _, rfl, ⟨c, rfl, _⟩, rfl⟩ := flat_fits F h
    refine ⟨⟨a.data.toList, b, c.data.toList⟩, ?_, trivial⟩
    simp only [List.map_cons, List.map_nil, absV_bool, absV_str]
    rfl) hd
end Go.Proofs.Ythncpgkpkdolfaa

set_option linter.all false
namespace Go.Proofs.Ythncpgkpkdolfaa
open Go Go.Ev
theorem batchTells_l {h : H} {v : V} {L : List Wri} {seq : Int} {s : List UInt8} (hw : SwN 3 v) (hL : Ws h v L) (hl : L.length ≤ 9223372036854775807) (q1 : -9223372036854775808 ≤ seq) (q2 : seq ≤ 9223372036854775807) (hs : s.length ≤ 9223372036854775807) (hf : B.val h.floor ≤ B.val h.next) :
    FnOk Try.prog 3 [v, .i .i64 seq, sv s] h fun y _ => y = .b true := (batchTells_ok hL hw hl q1 q2 hs hf).mono fun _ _ e => e.1
end Go.Proofs.Ythncpgkpkdolfaa

namespace Go.Proofs.Ythncpgkpkdolfaa.batchTells
open Go Go.Ev Go.ChangeShapes Go.WideShapes Go.ChangeAt Go.RowKit Go.ChangeMaps
set_option linter.all false
theorem own : ownKnob Try.prog.godebug = none := by kernel_rfl
theorem laid : laidOutB Try.prog = true := by kernel_rfl
theorem heap_pos {W : World} (h : W.ShapedOpen Try.prog) : 0 < W.heap.size := by
  obtain ⟨o, _, h1, _⟩ := h.2 Try.prog.globals.size (Nat.le_refl _) (of_decide_eq_true (by kernel_rfl))
  exact Nat.lt_of_le_of_lt (Nat.zero_le _) (Array.getElem?_eq_some_iff.1 h1).1
set_option maxRecDepth 100000 in
theorem isR0 : ∃ fs, FlatF Try.prog 49 fs [.s, .b, .s] := ⟨_, ⟨Try.underlying49, by kernel_rfl, ⟨⟨_, rfl, rfl, by kernel_rfl, Try.underlying9⟩, ⟨_, rfl, rfl, by kernel_rfl, Try.underlying4⟩, ⟨_, rfl, rfl, by kernel_rfl, Try.underlying9⟩, trivial⟩⟩⟩
set_option maxRecDepth 100000 in
theorem run {H : Type} {enc : TypeId × Value → H} (W : World) (base : Nat) (args : Array Value) (ds : List (DataW H)) (p : List MemPlace) (hval : ∀ (j : Nat) t v, Try.f3.params[j]? = some t → args[j]? = some v → Value.okWide Try.prog W .any base t v) (hopen : W.ShapedOpen Try.prog)
    (hA : DataW.TrodAll enc Try.prog W 0 (fun _ => true) true Try.f3.params.toList args.toList ds p) : Calls Try.prog 3 args W fun e w' => e = .returned (.bool true) ∧ Below W.heap.size W w' := by
  rw [Try.params3] at hA hval
  obtain ⟨v0, vs0, d0, ds0, p0, q0, hargs, rfl, rfl, h0, r0⟩ := trodAll_cons hA
  obtain ⟨v1, vs1, d1, ds1, p1, q1, rfl, rfl, rfl, h1, r1⟩ := trodAll_cons r0
  obtain ⟨v2, vs2, d2, ds2, p2, q2, rfl, rfl, rfl, h2, r2⟩ := trodAll_cons r1
  obtain ⟨rfl, rfl, rfl⟩ := trodAll_nil r2
  obtain rfl : args = #[v0, v1, v2] := by cases args; simp_all
  obtain ⟨h, s1, s2⟩ := Go.Ev.start W
  have s : Go.Ev.Start W h := ⟨s1, s2⟩
  obtain ⟨x0, y0, z0, rfl⟩ := okWide_slice Try.underlying22 (hval 0 22 v0 rfl rfl)
  obtain ⟨fu0, hfu0⟩ := h0
  obtain ⟨fs0, F0⟩ := isR0
  obtain ⟨u0, L0, e0, m0, l0, _⟩ := ws_of s (heap_pos hopen) Try.underlying22 F0 hfu0
  obtain rfl := (List.cons.inj (show [Value.slice x0 y0 z0] = [u0] from e0)).1
  obtain ⟨a1, rfl, rfl, rfl, w1⟩ := open_int Try.underlying3 (hval 1 3 v1 rfl rfl) h1
  obtain ⟨a2, rfl, rfl, rfl, w2⟩ := open_string Try.underlying9 (hval 2 9 v2 rfl rfl) h2
  exact calls_true s (vs := [absV W (.slice x0 y0 z0), .i .i64 a1, sv a2.data.toList]) ⟨absV_rel W _, rfl, (by rw [← absV_str W]; exact absV_rel W _), trivial⟩ (batchTells_l (swn_absW m0) m0 l0 (wf_i64 w1).1 (wf_i64 w1).2 (str_len w2) s1.flo)
set_option maxRecDepth 100000 in
theorem lifted (os : Os) (started : os.Started) (H : Type) (enc : TypeId × Value → H) :
    ReturnsInHanded {} Try.checked os 3 .any (Rows.batchTellsSpec.pre6 enc Try.prog Try.f3 Rows.batchTellsRow.domain false) (Rows.batchTellsSpec.post enc Try.prog Try.f3 false true false false) :=
  law_lifted (C := Try.checked) own started (by kernel_rfl) Try.func3
    (ChangeSpec.witness6 (enc := enc) (C := Try.checked) false ⟨#[], #[.slice none 0 0, .int .i64 0, .string ⟨#[]⟩], []⟩ 8 (by kernel_rfl) (by kernel_rfl) (by kernel_rfl) (by kernel_rfl))
    rfl (fun ds hd => by rw [Try.params3] at hd; match ds, hd with | [d1, d2, d3], _ => rfl) laid (by kernel_rfl) (by kernel_rfl) Try.underlying4 (fun W base args ds p hv ho hA => run W base args ds p hv ho hA)
theorem over : Rows.batchTellsRow.holds Try.pinned (OpenSpec.ofChange Rows.batchTellsSpec) :=
  OpenClaim.holds_of_wide 3 Try.f3 rfl rfl rfl rfl rfl rfl rfl ⟨rfl, rfl, rfl, rfl, rfl⟩ rfl rfl rfl rfl rfl (by kernel_rfl) Try.func3 (by kernel_rfl)
    (of_decide_eq_true (by kernel_rfl)) (by unfold Func.isWrapper; first | (rw [if_pos (by decide +kernel)]; kernel_rfl) | (rw [if_neg (by decide +kernel)]; exact ⟨rfl, rfl⟩))
    (fun os started H enc _ => lifted os started H enc)
/-- THE STATEMENT -/
theorem proved : Rows.BatchTellsSaid :=
  over
end Go.Proofs.Ythncpgkpkdolfaa.batchTells
