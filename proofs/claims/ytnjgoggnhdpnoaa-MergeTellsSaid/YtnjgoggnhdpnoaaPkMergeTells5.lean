/- Texts of ours, without what this claim does not use: NMgC Knravelinlaw11 NMgP NEntB JrMg2 NMg4 MgH ArgE ArgR ArgB NMgL MergeTells. No condition. -/
import Derived.Test.YtnjgoggnhdpnoaaPkMergeTells4
import Derived.Test.YtnjgoggnhdpnoaaRows
import Derived.Test.YtnjgoggnhdpnoaaProg
import Derived.KernelRfl
import Derived.WalkKit
import Derived.ProofKit
import Derived.OpenShut
import Derived.ChangeMaps5
set_option maxRecDepth 100000
set_option maxHeartbeats 8000000
set_option linter.all false
namespace Go.Proofs.Ytnjgoggnhdpnoaa
open Go Go.Ev
theorem seenBy_ok {h : H} {v u : V} {G : List Ent} {S T : List Int} (hL : Es h v G) (hT : Lst h u (T.map (V.i .i64))) (srt : SrtI T) (hm : ∀ n, n ∈ T ↔ n ∈ S ∨ n = 1000000) (ha : G.all isE = true) (hs : sortedE G = true) (hk : ∀ a ∈ G, ∀ b ∈ G, a.key = b.key) (hl : G.length ≤ 5000) (hTl : T.length ≤ 1000) (hf : B.val h.floor ≤ B.val h.next) : FnOk Try.prog 29 [v, u] h fun y h' =>
    Es h' y (G.filter (wantP G S)) ∧ SwN 4 y ∧ Stay nowhere h h' := by
  refine fn_go c29 (by intro hb; cases hb) (by simp) (by simp) fun Q hQ => ?_
  simp only [slotsF, Nat.reduceAdd]
  repeat' (first
    | refine St.h ?_
    | simp (disch := first | omega | (simp only [lnv]; omega)) only [wlk, ↓get_put', ↓reduceIte, seval, hL.ln]
    | (with_reducible (first | apply cd_split | apply gd_split)) <;> (intro hc; (try simp only [hcn] at hc); (try simp only [hc]); (try simp only [hcl] at hc); try omega))
  refine Ok.lp (fun m t g => ∃ (i : Nat) (w : V), m = G.length - i ∧ i ≤ G.length ∧ get 0 t = v ∧ get 1 t = u ∧ get 5 t = w ∧ get 10 t = v ∧ get 11 t = .i .i64 (G.length : Int) ∧ get 12 t = .i .i64 (i : Int) ∧ Stay nowhere h g ∧ Buf g 39 4 w (((G.take i).filter (wantP G S)).flatMap entC) ∧ (∀ q, isOf w q → B.val h.next ≤ B.val q)) G.length ?_ ?_
  · simp (disch := first | omega | (simp only [lnv]; omega)) only [wlk, ↓get_put', ↓reduceIte, seval]
    refine ⟨0, .l0, by omega, by omega, ?_⟩
    refine ⟨?_, ?_, ?_, ?_, ?_, ?_, Stay.refl _ _, Buf.nil _ _ _, ?_⟩
    rotate_right
    · rintro i ⟨_, _, _, _, _, e⟩; cases e
    all_goals first | trivial | rfl
  rintro I hI m t g ⟨i, w, rfl, hi, f0, f1, f5, f10, f11, f12, st, bf, own⟩
  have hfg := st.fl hf
  have hLg := hL.grow st
  by_cases hil : i < G.length
  case neg =>
    obtain rfl : i = G.length := by omega
    rw [List.take_length] at bf
    repeat' (first
      | refine St.h ?_
      | simp (disch := first | omega | (simp only [lnv]; omega)) only [wlk, ↓get_put', ↓reduceIte, seval, f0, f1, f5, f10, f11, f12]
      | (with_reducible (first | apply cd_split | apply gd_split)) <;> (intro hc; (try simp only [hcn] at hc); (try simp only [hc]); (try simp only [hcl] at hc); try omega))
    subst hQ
    exact ⟨Ss.buf bf rfl entC_len (by omega), swn_bufE bf, st⟩
  have htf := filter_takeE (q := wantP G S) hil
  have hisE := isE_iff.1 (List.all_eq_true.1 ha _ (getD_memE hil))
  have hfl : ((G.take i).filter (wantP G S)).length ≤ G.length := by
    have h1 := List.length_filter_le (wantP G S) (G.take i)
    have h2 : (G.take i).length ≤ G.length := by rw [List.length_take]; omega
    omega
  have hfm := fm_len entC_len ((G.take i).filter (wantP G S))
  repeat' (first
    | refine St.h ?_
    | simp (disch := first | omega | (simp only [lnv]; omega)) only [wlk, ↓get_put', ↓reduceIte, seval, f0, f1, f5, f10, f11, f12, hL.ix, hLg.la, Int.toNat_natCast]
    | (with_reducible (first | apply cd_split | apply gd_split)) <;> (intro hc; (try simp only [hcn] at hc); (try simp only [hc]); (try simp only [hcl] at hc); try omega))
  refine AL.own (by simp) hfg fun g1 t1 _ o1 => ?_
  have hfg1 := t1.fl hfg
  repeat' (first
    | refine St.h ?_
    | simp (disch := first | omega | (simp only [lnv]; omega)) only [wlk, ↓get_put', ↓reduceIte, seval, f0, f1, f5, f10, f11, f12, hL.ix, hLg.la, Int.toNat_natCast]
    | (with_reducible (first | apply cd_split | apply gd_split)) <;> (intro hc; (try simp only [hcn] at hc); (try simp only [hc]); (try simp only [hcl] at hc); try omega))
  refine ST.all o1 rfl rfl (by simp) (by simp) fun g2 o2 t2 => ?_
  have t12 : Stay nowhere g g2 := t1.past' t2 fun q hq => by rw [hq]; exact Nat.le_refl _
  have st2 := st.trans t12
  have hfg2 := t12.fl hfg
  have bf2 := bf.grow t12
  have hL2 := hL.grow st2
  have hT2 : Lst g2 u (T.map (V.i .i64)) := hT.grow st2
  have hTr : Lst g2 u (rI (fun j => T.getD j 0) T.length) := by rw [← rI_of]; exact hT2
  repeat' (first
    | refine St.h ?_
    | simp (disch := first | omega | (simp only [lnv]; omega)) only [wlk, ↓get_put', ↓reduceIte, seval, f0, f1, f5, f10, f11, f12, o2.row.l1]
    | (with_reducible (first | apply cd_split | apply gd_split)) <;> (intro hc; (try simp only [hcn] at hc); (try simp only [hc]); (try simp only [hcl] at hc); try omega))
  refine CL.mk (bsearch_ok (x := (G.getD i default).seq) hT2 hTl) ?_
  rintro _ _ ⟨k, bb, rfl, k1, k2, k3, rfl⟩
  have hkl : k < T.length := by
    refine Classical.byContradiction fun hh => ?_
    obtain rfl : k = T.length := by omega
    obtain ⟨j, hj, e⟩ := List.getElem_of_mem ((hm 1000000).2 (.inr rfl))
    have e : T.getD j 0 = 1000000 := by rw [List.getD_eq_getElem?_getD, List.getElem?_eq_getElem hj]; simpa using e
    have h1 := k2 (by omega)
    have h2 := srt j (T.length - 1) (by omega) (by omega)
    omega
  have k3 := k3 hkl
  have w1 : ((i : Int) - 1).toNat = i - 1 := by omega
  have hcs : (((i : Int) = 0) = True ∧ i = 0 ∧ (2 = 3) = False ∧ wantP G S (G.getD i default) = true) ∨ (((i : Int) = 0) = False ∧ 0 < i ∧ (T.getD k 0 < (G.getD (i - 1) default).seq) = True ∧ wantP G S (G.getD i default) = true) ∨ (((i : Int) = 0) = False ∧ 0 < i ∧ (T.getD k 0 < (G.getD (i - 1) default).seq) = False ∧ wantP G S (G.getD i default) = false) := by
    by_cases c : i = 0
    · exact .inl ⟨eq_true (by omega), c, eq_false (by decide), by subst c; exact want_first ha hs hil⟩
    · refine .inr ?_
      have c1 : ((i : Int) = 0) = False := eq_false (by omega)
      have hw := want_look ha hs hk hil (by omega) srt hm hkl k2 k3
      by_cases c2 : T.getD k 0 < (G.getD (i - 1) default).seq
      · exact .inl ⟨c1, by omega, eq_true c2, by rw [hw]; exact decide_eq_true c2⟩
      · exact .inr ⟨c1, by omega, eq_false c2, by rw [hw]; exact decide_eq_false c2⟩
  rw [← or_assoc] at hcs
  rcases hcs with hcs | ⟨d1, d2, d3, d4⟩
  case inr =>
    rw [d4] at htf
    have htf : (G.take (i + 1)).filter (wantP G S) = (G.take i).filter (wantP G S) := by rw [htf]; simp
    repeat' (first
      | refine St.h ?_
      | simp (disch := first | omega | (simp only [lnv]; omega)) only [wlk, ↓get_put', ↓reduceIte, seval, f0, f1, f5, f10, f11, f12, d1, d3, rI_ix hTr, rI_ld hTr, hL2.ix, hL2.l1, w1, Int.toNat_natCast]
      | (with_reducible (first | apply cd_split | apply gd_split)) <;> (intro hc; (try simp only [hcn] at hc); (try simp only [hc]); (try simp only [hcl] at hc); try omega))
    exact lp_next hI (G.length - (i + 1)) (by omega) ⟨i + 1, w, rfl, by omega, by simp (disch := first | omega | (simp only [lnv]; omega)) only [wlk, ↓get_put', ↓reduceIte, seval, f0], by simp (disch := first | omega | (simp only [lnv]; omega)) only [wlk, ↓get_put', ↓reduceIte, seval, f1], by simp (disch := first | omega | (simp only [lnv]; omega)) only [wlk, ↓get_put', ↓reduceIte, seval, f5], by simp (disch := first | omega | (simp only [lnv]; omega)) only [wlk, ↓get_put', ↓reduceIte, seval, f10], by simp (disch := first | omega | (simp only [lnv]; omega)) only [wlk, ↓get_put', ↓reduceIte, seval, f11], by simp (disch := first | omega | (simp only [lnv]; omega)) only [wlk, ↓get_put', ↓reduceIte, seval, f12]; rfl, st2, by rw [htf]; exact bf2, own⟩
  have d4 : wantP G S (G.getD i default) = true := by
    rcases hcs with ⟨_, _, _, d⟩ | ⟨_, _, _, d⟩ <;> exact d
  rw [d4, if_pos rfl] at htf
  rcases hcs with ⟨d1, d2, d3, _⟩ | ⟨d1, d2, d3, _⟩
  all_goals
    repeat' (first
      | refine St.h ?_
      | simp (disch := first | omega | (simp only [lnv]; omega)) only [wlk, ↓get_put', ↓reduceIte, seval, f0, f1, f5, f10, f11, f12, d1, d3, rI_ix hTr, rI_ld hTr, hL2.ix, hL2.l1, o2.row.ln, w1, Int.toNat_natCast]
      | (with_reducible (first | apply cd_split | apply gd_split)) <;> (intro hc; (try simp only [hcn] at hc); (try simp only [hc]); (try simp only [hcl] at hc); try omega))
    refine AL.own (by simp) hfg2 fun g4 t4 _ o4 => ?_
    have hfg4 := t4.fl hfg2
    have bf4 := bf2.grow t4
    repeat' (first
      | refine St.h ?_
      | simp (disch := first | omega | (simp only [lnv]; omega)) only [wlk, ↓get_put', ↓reduceIte, seval, f0, f1, f5, f10, f11, f12]
      | (with_reducible (first | apply cd_split | apply gd_split)) <;> (intro hc; (try simp only [hcn] at hc); (try simp only [hc]); (try simp only [hcl] at hc); try omega))
    refine AP.buf (vs := entC (G.getD i default)) (cnt := 1) bf4 (new_row o4.row rfl (Nat.le_refl _) (by omega) (by show 4 ≤ 4; omega)) hfg4 (by omega) rfl rfl (by rw [hfm, entC_len]; omega) fun u' g5 b5 t5 ho tp => ?_
    have s5 : Stay nowhere h g5 := (st2.trans t4).past' t5 fun q hq => own q hq
    repeat' (first
      | refine St.h ?_
      | simp (disch := first | omega | (simp only [lnv]; omega)) only [wlk, ↓get_put', ↓reduceIte, seval, f0, f1, f5, f10, f11, f12]
      | (with_reducible (first | apply cd_split | apply gd_split)) <;> (intro hc; (try simp only [hcn] at hc); (try simp only [hc]); (try simp only [hcl] at hc); try omega))
    refine lp_next hI (G.length - (i + 1)) (by omega) ⟨i + 1, u', rfl, by omega, by simp (disch := first | omega | (simp only [lnv]; omega)) only [wlk, ↓get_put', ↓reduceIte, seval, f0], by simp (disch := first | omega | (simp only [lnv]; omega)) only [wlk, ↓get_put', ↓reduceIte, seval, f1], by simp (disch := first | omega | (simp only [lnv]; omega)) only [wlk, ↓get_put', ↓reduceIte, seval], by simp (disch := first | omega | (simp only [lnv]; omega)) only [wlk, ↓get_put', ↓reduceIte, seval, f10], by simp (disch := first | omega | (simp only [lnv]; omega)) only [wlk, ↓get_put', ↓reduceIte, seval, f11], by simp (disch := first | omega | (simp only [lnv]; omega)) only [wlk, ↓get_put', ↓reduceIte, seval, f12]; rfl, s5, by rw [htf, List.flatMap_append]; simpa using b5, fun q hq => ?_⟩
    rcases ho q hq with h1 | h1
    · exact own q h1
    · have := st2.next; have := t4.next; omega
/-- the first one of what is left -/
theorem la_zero {h : H} {w : V} {A : List Ent} {k : Nat} (hw : Es h w (A.drop k)) (hk : k < A.length) (N : Nx) : LN Try.prog (lid w) (lg w) (loff w) (lfin w) 4 h N = N.go Try.prog (.a [sv (A.getD k default).key, .i .i64 (A.getD k default).seq, .b (A.getD k default).del, sv (A.getD k default).val]) h := by
  have := hw.la (P := Try.prog) (N := N) (i := 0) (by rw [List.length_drop]; omega)
  rw [Nat.zero_mul, Nat.add_zero, show (A.drop k).getD 0 default = A.getD k default by simp [List.getD]] at this
  exact this
/-- two rows joined -/
theorem joinTwo_ok {h : H} {v u : V} {A C : List Ent} (hA : Es h v A) (hC : Es h u C) (hwA : SwN 4 v) (sA : sortedE A = true) (sC : sortedE C = true) (hl : A.length + C.length ≤ 10000) (hf : B.val h.floor ≤ B.val h.next) : FnOk Try.prog 35 [v, u] h fun y h' =>
    Es h' y (addsE A C) ∧ SwN 4 y ∧ Stay nowhere h h' := by
  have e0 : ((A.length : Int) + (C.length : Int)).toNat = A.length + C.length := by omega
  refine fn_go c35 (by intro hb; cases hb) (by simp) (by simp) fun Q hQ => ?_
  simp only [slotsF, Nat.reduceAdd]
  repeat' (first
    | refine St.h ?_
    | simp (disch := first | omega | (simp only [lnv]; omega)) only [wlk, ↓get_put', ↓reduceIte, seval, hA.ln, hC.ln, e0]
    | (with_reducible (first | apply cd_split | apply gd_split)) <;> (intro hc; (try simp only [hcn] at hc); (try simp only [hc]); (try simp only [hcl] at hc); try omega))
  refine AL.own (by rw [repL_len]; simp; omega) hf fun h1 s1 n1 o1 => ?_
  have hf1 := s1.fl hf
  have o1 := o1.none
  repeat' (first
    | refine St.h ?_
    | simp (disch := first | omega | (simp only [lnv]; omega)) only [wlk, ↓get_put', ↓reduceIte, seval, hC.ln]
    | (with_reducible (first | apply cd_split | apply gd_split)) <;> (intro hc; (try simp only [hcn] at hc); (try simp only [hc]); (try simp only [hcl] at hc); try omega))
  refine Ok.lp (fun m t g => ∃ (i k : Nat) (w : V) (J : List Ent), m = C.length - i ∧ i ≤ C.length ∧ k ≤ A.length ∧ J.length ≤ k + i ∧ get 0 t = w ∧ get 5 t = .l h.next 0 0 J.length ((A.length + C.length) * 4) (some (A.length + C.length)) ∧ get 15 t = u ∧ get 16 t = .i .i64 (C.length : Int) ∧ get 17 t = .i .i64 (i : Int) ∧ Stay nowhere h g ∧ Ev.Own g h.next (J.flatMap entC) ∧ Es h w (A.drop k) ∧ SwN 4 w ∧ J ++ A.drop k = addsE A (C.take i) ∧ (i < C.length → ∀ a ∈ J, lessE a (C.getD i default) = true)) C.length ?_ ?_
  · simp (disch := first | omega | (simp only [lnv]; omega)) only [wlk, ↓get_put', ↓reduceIte, seval]
    refine ⟨0, 0, v, [], by omega, by omega, by omega, by simp, ?_⟩
    refine ⟨?_, ?_, ?_, ?_, ?_, s1, o1, hA, hwA, rfl, fun _ a ha => by cases ha⟩
    all_goals first | trivial | rfl
  rintro I hI m t g ⟨i, k, w, J, rfl, hi, hk, hJ, f0, f5, f15, f16, f17, st, og, hw, sw, hadd, hless⟩
  have hfg := st.fl hf
  have hCg := hC.grow st
  have hwg := hw.grow st
  have hdl : (A.drop k).length = A.length - k := List.length_drop
  have hJm := fm_len entC_len J
  by_cases hil : i < C.length
  case neg =>
    obtain rfl : i = C.length := by omega
    rw [List.take_length] at hadd
    repeat' (first
      | refine St.h ?_
      | simp (disch := first | omega | (simp only [lnv]; omega)) only [wlk, ↓get_put', ↓reduceIte, seval, f0, f5, f15, f16, f17]
      | (with_reducible (first | apply cd_split | apply gd_split)) <;> (intro hc; (try simp only [hcn] at hc); (try simp only [hc]); (try simp only [hcl] at hc); try omega))
    refine AP.made (xs := J.flatMap entC) og hJm (new_ss hwg entC_len (by omega)) (fm_len entC_len _) (allOne_entM _) (by omega) (by omega) (by omega) fun g2 o2 t2 => ?_
    repeat' (first
      | refine St.h ?_
      | simp (disch := first | omega | (simp only [lnv]; omega)) only [wlk, ↓get_put', ↓reduceIte, seval]
      | (with_reducible (first | apply cd_split | apply gd_split)) <;> (intro hc; (try simp only [hcn] at hc); (try simp only [hc]); (try simp only [hcl] at hc); try omega))
    subst hQ
    rw [← List.flatMap_append, hadd] at o2
    have hlen : J.length + (A.drop k).length = (addsE A C).length := by rw [← hadd, List.length_append]
    refine ⟨Ss.lit o2 rfl entC_len hlen (Nat.mul_le_mul_right 4 (by rw [← hlen, hdl]; omega)), .inr ⟨_, _, _, _, _, _, rfl, by rw [hdl]; omega, fun h => by omega⟩, st.past' t2 fun q hq => by rw [hq]; exact Nat.le_refl _⟩
  have hless := hless hil
  repeat' (first
    | refine St.h ?_
    | simp (disch := first | omega | (simp only [lnv]; omega)) only [wlk, ↓get_put', ↓reduceIte, seval, f0, f5, f15, f16, f17, hC.ix, hCg.la, Int.toNat_natCast]
    | (with_reducible (first | apply cd_split | apply gd_split)) <;> (intro hc; (try simp only [hcn] at hc); (try simp only [hc]); (try simp only [hcl] at hc); try omega))
  refine AL.own (by simp) hfg fun g1 t1 _ oe => ?_
  have hfg1 := t1.fl hfg
  have hcid : g.next ≠ h.next := fun e => by have := own_lt' og; rw [e] at this; omega
  repeat' (first
    | refine St.h ?_
    | simp (disch := first | omega | (simp only [lnv]; omega)) only [wlk, ↓get_put', ↓reduceIte, seval, f0, f5, f15, f16, f17, hC.ix, hCg.la, Int.toNat_natCast]
    | (with_reducible (first | apply cd_split | apply gd_split)) <;> (intro hc; (try simp only [hcn] at hc); (try simp only [hc]); (try simp only [hcl] at hc); try omega))
  refine ST.all oe rfl rfl (by simp) (by simp) fun g2 oe t2 => ?_
  have t12 : Stay nowhere g g2 := t1.past' t2 fun q hq => by rw [hq]; exact Nat.le_refl _
  have st2 := st.trans t12
  have og2 := og.stay t12 fun h => h
  generalize hidn : g.next = idn at *
  repeat' (first
    | refine St.h ?_
    | simp (disch := first | omega | (simp only [lnv]; omega)) only [wlk, ↓get_put', ↓reduceIte, seval, f0, f5, f15, f16, f17]
    | (with_reducible (first | apply cd_split | apply gd_split)) <;> (intro hc; (try simp only [hcn] at hc); (try simp only [hc]); (try simp only [hcl] at hc); try omega))
  refine Ok.lp (fun m t g => ∃ (k : Nat) (w : V) (J : List Ent), m = A.length - k ∧ k ≤ A.length ∧ J.length ≤ k + i ∧ get 0 t = w ∧ get 5 t = .l h.next 0 0 J.length ((A.length + C.length) * 4) (some (A.length + C.length)) ∧ get 7 t = .p idn 0 0 4 ∧ get 15 t = u ∧ get 16 t = .i .i64 (C.length : Int) ∧ get 17 t = .i .i64 (i : Int) ∧ Stay nowhere h g ∧ Ev.Own g h.next (J.flatMap entC) ∧ Ev.Own g idn [sv (C.getD i default).key, .i .i64 (C.getD i default).seq, .b (C.getD i default).del, sv (C.getD i default).val] ∧ Es h w (A.drop k) ∧ SwN 4 w ∧ J ++ A.drop k = addsE A (C.take i) ∧ (∀ a ∈ J, lessE a (C.getD i default) = true)) (A.length - k) ?_ ?_
  · simp (disch := first | omega | (simp only [lnv]; omega)) only [wlk, ↓get_put', ↓reduceIte, seval, f0, f5, f15, f16, f17]
    refine ⟨k, w, J, rfl, hk, hJ, ?_⟩
    refine ⟨?_, ?_, ?_, ?_, ?_, ?_, st2, og2, oe, hw, sw, hadd, hless⟩
    all_goals first | trivial | rfl
  rintro I2 hI2 m2 t3 g3 ⟨k, w, J, rfl, hk, hJ, f0, f5, f7, f15, f16, f17, st, og, oe, hw, sw, hadd, hless⟩
  have hfg := st.fl hf
  have hwg := hw.grow st
  have hdl : (A.drop k).length = A.length - k := List.length_drop
  have hJm := fm_len entC_len J
  have htk : addsE A (C.take (i + 1)) = addE (addsE A (C.take i)) (C.getD i default) := by rw [take_ent hil, addsE_snoc]
  have nxt : i + 1 < C.length → lessE (C.getD i default) (C.getD (i + 1) default) = true := fun h => pw_at sC (by omega) h
  have hsd : sortedE (A.drop k) = true := sorted_drop sA k
  -- behind the inner loop: the entry itself
  have hcs : ((0 < (A.drop k).length) = False ∧ k = A.length ∧ A.drop k = []) ∨ ((0 < (A.drop k).length) = True ∧ k < A.length ∧ lessE (C.getD i default) (A.getD k default) = true) ∨ ((0 < (A.drop k).length) = True ∧ k < A.length ∧ lessE (C.getD i default) (A.getD k default) = false) := by
    by_cases c : k < A.length
    · refine .inr ?_
      have c1 : (0 < (A.drop k).length) = True := eq_true (by omega)
      cases c2 : lessE (C.getD i default) (A.getD k default) with
      | true => exact .inl ⟨c1, c, rfl⟩
      | false => exact .inr ⟨c1, c, rfl⟩
    · exact .inl ⟨eq_false (by omega), by omega, List.drop_eq_nil_of_le (by omega)⟩
  have hfmE : ∀ x : Ent, [sv x.key, V.i .i64 x.seq, .b x.del, sv x.val] = entC x := fun _ => rfl
  rcases hcs with ⟨d1, d2, d3⟩ | ⟨d1, d2, d3⟩ | ⟨d1, d2, d3⟩
  · have hnew := jn_new hless hsd (.inl d3)
    rw [hadd, ← htk, d3] at hnew
    have hz : (A.drop k).length = 0 := by rw [d3]; rfl
    repeat' (first
      | refine St.h ?_
      | simp (disch := first | omega | (simp only [lnv]; omega)) only [wlk, ↓get_put', ↓reduceIte, seval, f0, f5, f7, f15, f16, f17, hwg.ln, hz, oe.row.ln]
      | (with_reducible (first | apply cd_split | apply gd_split)) <;> (intro hc; (try simp only [hcn] at hc); (try simp only [hc]); (try simp only [hcl] at hc); try omega))
    refine AL.own (by simp) hfg fun g4 t4 _ o4 => ?_
    have hfg4 := t4.fl hfg
    have og4 := og.stay t4 fun h => h
    repeat' (first
      | refine St.h ?_
      | simp (disch := first | omega | (simp only [lnv]; omega)) only [wlk, ↓get_put', ↓reduceIte, seval, f0, f5, f7, f15, f16, f17]
      | (with_reducible (first | apply cd_split | apply gd_split)) <;> (intro hc; (try simp only [hcn] at hc); (try simp only [hc]); (try simp only [hcl] at hc); try omega))
    refine AP.made (vs := entC (C.getD i default)) (cnt := 1) og4 hJm (new_row o4.row rfl (Nat.le_refl _) (by omega) (by show 4 ≤ 4; omega)) rfl rfl (by omega) (by omega) (by omega) fun g5 o5 t5 => ?_
    have st5 := (st.trans t4).past' t5 fun q hq => by rw [hq]; exact Nat.le_refl _
    repeat' (first
      | refine St.h ?_
      | simp (disch := first | omega | (simp only [lnv]; omega)) only [wlk, ↓get_put', ↓reduceIte, seval, f0, f5, f7, f15, f16, f17]
      | (with_reducible (first | apply cd_split | apply gd_split)) <;> (intro hc; (try simp only [hcn] at hc); (try simp only [hc]); (try simp only [hcl] at hc); try omega))
    refine lp_next hI (C.length - (i + 1)) (by omega) ⟨i + 1, k, w, J ++ [C.getD i default], rfl, by omega, hk, by simp; omega, by simp (disch := first | omega | (simp only [lnv]; omega)) only [wlk, ↓get_put', ↓reduceIte, seval, f0], by simp (disch := first | omega | (simp only [lnv]; omega)) only [wlk, ↓get_put', ↓reduceIte, seval]; simp, by simp (disch := first | omega | (simp only [lnv]; omega)) only [wlk, ↓get_put', ↓reduceIte, seval, f15], by simp (disch := first | omega | (simp only [lnv]; omega)) only [wlk, ↓get_put', ↓reduceIte, seval, f16], by simp (disch := first | omega | (simp only [lnv]; omega)) only [wlk, ↓get_put', ↓reduceIte, seval, f17]; rfl, st5, by rw [List.flatMap_append]; simpa using o5, hw, sw, by rw [hnew, d3]; simp, fun h2 a ha => ?_⟩
    rcases List.mem_append.1 ha with m | m
    · exact lessE_trans (hless a m) (nxt h2)
    · rw [List.mem_singleton.1 m]; exact nxt h2
  · have hd0 : (A.drop k).getD 0 default = A.getD k default := by simp [List.getD]
    have hz : (A.drop k).length = A.length - k := hdl
    have hnew := jn_new hless hsd (.inr (by rw [hd0]; exact d3))
    rw [hadd, ← htk] at hnew
    repeat' (first
      | refine St.h ?_
      | simp (disch := first | omega | (simp only [lnv]; omega)) only [wlk, ↓get_put', ↓reduceIte, seval, f0, f5, f7, f15, f16, f17, hwg.ln, hwg.ix, la_zero hwg d2, oe.row.ln]
      | (with_reducible (first | apply cd_split | apply gd_split)) <;> (intro hc; (try simp only [hcn] at hc); (try simp only [hc]); (try simp only [hcl] at hc); try omega))
    refine CL.stay (less_ok (a := C.getD i default) (b := A.getD k default) hfg) fun g3' t3' => ?_
    rw [d3]
    have hfg3 := t3'.fl hfg
    have oe3 := oe.stay t3' fun h => h
    repeat' (first
      | refine St.h ?_
      | simp (disch := first | omega | (simp only [lnv]; omega)) only [wlk, ↓get_put', ↓reduceIte, seval, f0, f5, f7, f15, f16, f17, oe3.row.ln]
      | (with_reducible (first | apply cd_split | apply gd_split)) <;> (intro hc; (try simp only [hcn] at hc); (try simp only [hc]); (try simp only [hcl] at hc); try omega))
    refine AL.own (by simp) hfg3 fun g4 t4 _ o4 => ?_
    have hfg4 := t4.fl hfg3
    have og4 := (og.stay t3' fun h => h).stay t4 fun h => h
    repeat' (first
      | refine St.h ?_
      | simp (disch := first | omega | (simp only [lnv]; omega)) only [wlk, ↓get_put', ↓reduceIte, seval, f0, f5, f7, f15, f16, f17]
      | (with_reducible (first | apply cd_split | apply gd_split)) <;> (intro hc; (try simp only [hcn] at hc); (try simp only [hc]); (try simp only [hcl] at hc); try omega))
    refine AP.made (vs := entC (C.getD i default)) (cnt := 1) og4 hJm (new_row o4.row rfl (Nat.le_refl _) (by omega) (by show 4 ≤ 4; omega)) rfl rfl (by omega) (by omega) (by omega) fun g5 o5 t5 => ?_
    have st5 := ((st.trans t3').trans t4).past' t5 fun q hq => by rw [hq]; exact Nat.le_refl _
    repeat' (first
      | refine St.h ?_
      | simp (disch := first | omega | (simp only [lnv]; omega)) only [wlk, ↓get_put', ↓reduceIte, seval, f0, f5, f7, f15, f16, f17]
      | (with_reducible (first | apply cd_split | apply gd_split)) <;> (intro hc; (try simp only [hcn] at hc); (try simp only [hc]); (try simp only [hcl] at hc); try omega))
    refine lp_next hI (C.length - (i + 1)) (by omega) ⟨i + 1, k, w, J ++ [C.getD i default], rfl, by omega, hk, by simp; omega, by simp (disch := first | omega | (simp only [lnv]; omega)) only [wlk, ↓get_put', ↓reduceIte, seval, f0], by simp (disch := first | omega | (simp only [lnv]; omega)) only [wlk, ↓get_put', ↓reduceIte, seval]; simp, by simp (disch := first | omega | (simp only [lnv]; omega)) only [wlk, ↓get_put', ↓reduceIte, seval, f15], by simp (disch := first | omega | (simp only [lnv]; omega)) only [wlk, ↓get_put', ↓reduceIte, seval, f16], by simp (disch := first | omega | (simp only [lnv]; omega)) only [wlk, ↓get_put', ↓reduceIte, seval, f17]; rfl, st5, by rw [List.flatMap_append]; simpa using o5, hw, sw, by rw [hnew]; simp, fun h2 a ha => ?_⟩
    rcases List.mem_append.1 ha with m | m
    · exact lessE_trans (hless a m) (nxt h2)
    · rw [List.mem_singleton.1 m]; exact nxt h2
  · have hd0 : (A.drop k).getD 0 default = A.getD k default := by simp [List.getD]
    have hdc : A.drop k = A.getD k default :: A.drop (k + 1) := drop_entM d2
    obtain ⟨x, x1, x2, x3⟩ := Ss.lo (P := Try.prog) (kd := .i64) (k := 1) hw entC_len sw (by omega)
    rw [List.drop_drop] at x1
    have x3 : ∀ (g : H) (N : Nx), H2 Try.prog (slLoV 4) w (.i .i64 1) g N = N.go Try.prog x g := x3
    repeat' (first
      | refine St.h ?_
      | simp (disch := first | omega | (simp only [lnv]; omega)) only [wlk, ↓get_put', ↓reduceIte, seval, f0, f5, f7, f15, f16, f17, hwg.ln, hwg.ix, la_zero hwg d2, oe.row.ln]
      | (with_reducible (first | apply cd_split | apply gd_split)) <;> (intro hc; (try simp only [hcn] at hc); (try simp only [hc]); (try simp only [hcl] at hc); try omega))
    refine CL.stay (less_ok (a := C.getD i default) (b := A.getD k default) hfg) fun g3' t3' => ?_
    rw [d3]
    have hfg3 := t3'.fl hfg
    have oe3 := oe.stay t3' fun h => h
    have og3 := og.stay t3' fun h => h
    have hwg3 := hwg.grow t3'
    repeat' (first
      | refine St.h ?_
      | simp (disch := first | omega | (simp only [lnv]; omega)) only [wlk, ↓get_put', ↓reduceIte, seval, f0, f5, f7, f15, f16, f17, hwg3.ix, la_zero hwg3 d2]
      | (with_reducible (first | apply cd_split | apply gd_split)) <;> (intro hc; (try simp only [hcn] at hc); (try simp only [hc]); (try simp only [hcl] at hc); try omega))
    refine AL.own (by simp) hfg3 fun g4 t4 _ o4 => ?_
    have hfg4 := t4.fl hfg3
    have og4 := og3.stay t4 fun h => h
    have oe4 := oe3.stay t4 fun h => h
    have hwg4 := hwg3.grow t4
    have n1 : g3'.next ≠ h.next := fun e => by have := own_lt' og3; rw [e] at this; omega
    have n2 : g3'.next ≠ idn := fun e => by have := own_lt' oe3; rw [e] at this; omega
    repeat' (first
      | refine St.h ?_
      | simp (disch := first | omega | (simp only [lnv]; omega)) only [wlk, ↓get_put', ↓reduceIte, seval, f0, f5, f7, f15, f16, f17, hwg4.ix, la_zero hwg4 d2]
      | (with_reducible (first | apply cd_split | apply gd_split)) <;> (intro hc; (try simp only [hcn] at hc); (try simp only [hc]); (try simp only [hcl] at hc); try omega))
    refine ST.all o4 rfl rfl (by simp) (by simp) fun g5 o5 t5 => ?_
    have og5 := og4.stay t5 fun h => n1 h.symm
    have oe5 := oe4.stay t5 fun h => n2 h.symm
    have t45 : Stay nowhere g3' g5 := t4.past' t5 fun q hq => by rw [hq]; exact Nat.le_refl _
    have hfg5 := t45.fl hfg3
    repeat' (first
      | refine St.h ?_
      | simp (disch := first | omega | (simp only [lnv]; omega)) only [wlk, ↓get_put', ↓reduceIte, seval, f0, f5, f7, f15, f16, f17, x3, o5.row.ln]
      | (with_reducible (first | apply cd_split | apply gd_split)) <;> (intro hc; (try simp only [hcn] at hc); (try simp only [hc]); (try simp only [hcl] at hc); try omega))
    refine AL.own (by simp) hfg5 fun g6 t6 _ o6 => ?_
    have hfg6 := t6.fl hfg5
    have og6 := og5.stay t6 fun h => h
    have oe6 := oe5.stay t6 fun h => h
    have o56 := o5.stay t6 fun h => h
    repeat' (first
      | refine St.h ?_
      | simp (disch := first | omega | (simp only [lnv]; omega)) only [wlk, ↓get_put', ↓reduceIte, seval, f0, f5, f7, f15, f16, f17]
      | (with_reducible (first | apply cd_split | apply gd_split)) <;> (intro hc; (try simp only [hcn] at hc); (try simp only [hc]); (try simp only [hcl] at hc); try omega))
    refine AP.made (vs := entC (A.getD k default)) (cnt := 1) og6 hJm (new_row o6.row rfl (Nat.le_refl _) (by omega) (by show 4 ≤ 4; omega)) rfl rfl (by omega) (by omega) (by omega) fun g7 o7 t7 => ?_
    have st7 := (((st.trans t3').trans t45).trans t6).past' t7 fun q hq => by rw [hq]; exact Nat.le_refl _
    have hfg7 := st7.fl hf
    have oe7 := oe6.stay t7 fun h => hcid h
    have o57 := o56.stay t7 fun h => n1 h
    have hJ2 : (J ++ [A.getD k default]).flatMap entC = J.flatMap entC ++ entC (A.getD k default) := by rw [List.flatMap_append]; simp
    have hadd2 : (J ++ [A.getD k default]) ++ A.drop (k + 1) = J ++ A.drop k := by rw [hdc, List.append_assoc]; rfl
    repeat' (first
      | refine St.h ?_
      | simp (disch := first | omega | (simp only [lnv]; omega)) only [wlk, ↓get_put', ↓reduceIte, seval, f0, f5, f7, f15, f16, f17, o57.row.ln, oe7.row.ln]
      | (with_reducible (first | apply cd_split | apply gd_split)) <;> (intro hc; (try simp only [hcn] at hc); (try simp only [hc]); (try simp only [hcl] at hc); try omega))
    refine CL.stay (less_ok (a := A.getD k default) (b := C.getD i default) hfg7) fun g8 t8 => ?_
    have st8 := st7.trans t8
    cases d4 : lessE (A.getD k default) (C.getD i default) with
    | true =>
      repeat' (first
        | refine St.h ?_
        | simp (disch := first | omega | (simp only [lnv]; omega)) only [wlk, ↓get_put', ↓reduceIte, seval, f0, f5, f7, f15, f16, f17]
        | (with_reducible (first | apply cd_split | apply gd_split)) <;> (intro hc; (try simp only [hcn] at hc); (try simp only [hc]); (try simp only [hcl] at hc); try omega))
      refine lp_next hI2 (A.length - (k + 1)) (by omega) ⟨k + 1, x, J ++ [A.getD k default], rfl, by omega, by simp; omega, by simp (disch := first | omega | (simp only [lnv]; omega)) only [wlk, ↓get_put', ↓reduceIte, seval], by simp (disch := first | omega | (simp only [lnv]; omega)) only [wlk, ↓get_put', ↓reduceIte, seval]; simp, by simp (disch := first | omega | (simp only [lnv]; omega)) only [wlk, ↓get_put', ↓reduceIte, seval, f7], by simp (disch := first | omega | (simp only [lnv]; omega)) only [wlk, ↓get_put', ↓reduceIte, seval, f15], by simp (disch := first | omega | (simp only [lnv]; omega)) only [wlk, ↓get_put', ↓reduceIte, seval, f16], by simp (disch := first | omega | (simp only [lnv]; omega)) only [wlk, ↓get_put', ↓reduceIte, seval, f17], st8, by rw [hJ2]; exact o7.stay t8 fun h => h, oe7.stay t8 fun h => h, x1, x2, by rw [hadd2]; exact hadd, fun a ha => ?_⟩
      rcases List.mem_append.1 ha with m | m
      · exact hless a m
      · rw [List.mem_singleton.1 m]; exact d4
    | false =>
      have hsame := jn_same (J := J) (C := A.drop (k + 1)) d3 d4
      rw [← hdc, hadd, ← htk] at hsame
      repeat' (first
        | refine St.h ?_
        | simp (disch := first | omega | (simp only [lnv]; omega)) only [wlk, ↓get_put', ↓reduceIte, seval, f0, f5, f7, f15, f16, f17]
        | (with_reducible (first | apply cd_split | apply gd_split)) <;> (intro hc; (try simp only [hcn] at hc); (try simp only [hc]); (try simp only [hcl] at hc); try omega))
      refine lp_next hI (C.length - (i + 1)) (by omega) ⟨i + 1, k + 1, x, J ++ [A.getD k default], rfl, by omega, by omega, by simp; omega, by simp (disch := first | omega | (simp only [lnv]; omega)) only [wlk, ↓get_put', ↓reduceIte, seval], by simp (disch := first | omega | (simp only [lnv]; omega)) only [wlk, ↓get_put', ↓reduceIte, seval]; simp, by simp (disch := first | omega | (simp only [lnv]; omega)) only [wlk, ↓get_put', ↓reduceIte, seval, f15], by simp (disch := first | omega | (simp only [lnv]; omega)) only [wlk, ↓get_put', ↓reduceIte, seval, f16], by simp (disch := first | omega | (simp only [lnv]; omega)) only [wlk, ↓get_put', ↓reduceIte, seval, f17]; rfl, st8, by rw [hJ2]; exact o7.stay t8 fun h => h, x1, x2, by rw [hadd2, hadd, hsame], fun h2 a ha => ?_⟩
      rcases List.mem_append.1 ha with m | m
      · exact lessE_trans (hless a m) (nxt h2)
      · rw [List.mem_singleton.1 m]; exact le_less d3 (nxt h2)
end Go.Proofs.Ytnjgoggnhdpnoaa

set_option maxRecDepth 1000000
namespace Go.Proofs.Ytnjgoggnhdpnoaa.ravelinlaw11
open Go.Ev
theorem known_run : runFn noTb Try.prog 1000 8 [] = true := by kernel_rfl
theorem known_pure : PureTrue Try.prog 8 := pure_of (noTb_ok _) (Checked.mixed Try.checked) known_run
end Go.Proofs.Ytnjgoggnhdpnoaa.ravelinlaw11

set_option maxRecDepth 100000
set_option maxHeartbeats 8000000
set_option linter.all false
namespace Go.Proofs.Ytnjgoggnhdpnoaa
open Go Go.Ev
theorem Bls.take {h : H} {v u : V} {R : List (List Ent)} {ks : List Bk} {k : Nat} (a : Bls h v R ks) (b : Ss 1 bkC h u (ks.take k)) : Bls h u (R.take k) (ks.take k) :=
  ⟨b, by rw [← a.eq, List.map_take], fun x hx => a.es x (List.mem_of_mem_take hx)⟩
theorem Bls.drop {h : H} {v u : V} {R : List (List Ent)} {ks : List Bk} {k : Nat} (a : Bls h v R ks) (b : Ss 1 bkC h u (ks.drop k)) : Bls h u (R.drop k) (ks.drop k) :=
  ⟨b, by rw [← a.eq, List.map_drop], fun x hx => a.es x (List.mem_of_mem_drop hx)⟩
theorem Bls.ld0 {h : H} {v : V} {R : List (List Ent)} {ks : List Bk} (a : Bls h v R ks) (hi : 0 < R.length) (N : Nx) : L1 Try.prog (lid v) (lg v) (loff v) (lfin v) h N = N.go Try.prog (ks.getD 0 default).v h := by
  have := a.ld (P := Try.prog) (N := N) hi
  rwa [Nat.add_zero] at this
theorem all_take {R : List (List Ent)} {p : List Ent → Bool} (k : Nat) (h : R.all p = true) : (R.take k).all p = true := by
  rw [List.all_eq_true] at h ⊢
  exact fun x hx => h x (List.mem_of_mem_take hx)
theorem all_drop {R : List (List Ent)} {p : List Ent → Bool} (k : Nat) (h : R.all p = true) : (R.drop k).all p = true := by
  rw [List.all_eq_true] at h ⊢
  exact fun x hx => h x (List.mem_of_mem_drop hx)
theorem flat_parts {R : List (List Ent)} (k : Nat) : (R.take k).flatten.length + (R.drop k).flatten.length = R.flatten.length := by
  rw [← List.length_append, ← List.flatten_append, List.take_append_drop]
theorem join_step {h : H} {v : V} {R : List (List Ent)} {ks : List Bk} (hB : Bls h v R ks) (hw : SwN 1 v) (hs : R.all sortedE = true) (hl : R.length ≤ 1000) (hfl : R.flatten.length ≤ 5000) (hf : B.val h.floor ≤ B.val h.next)
    (ih : ∀ {h : H} {v : V} {R' : List (List Ent)} {ks : List Bk}, Bls h v R' ks → SwN 1 v → R'.all sortedE = true → R'.length < R.length → R'.flatten.length ≤ 5000 → B.val h.floor ≤ B.val h.next → FnOk Try.prog 22 [v] h fun y h' => Es h' y (addsE [] R'.flatten) ∧ SwN 4 y ∧ Stay nowhere h h') :
    FnOk Try.prog 22 [v] h fun y h' => Es h' y (addsE [] R.flatten) ∧ SwN 4 y ∧ Stay nowhere h h' := by
  refine fn_go c22 (by intro hb; cases hb) (by simp) (by simp) fun Q hQ => ?_
  simp only [slotsF, Nat.reduceAdd]
  by_cases h0 : R.length = 0
  case pos =>
    have d1 : ((R.length : Int) = 0) = True := eq_true (by omega)
    repeat' (first
      | refine St.h ?_
      | simp (disch := first | omega | (simp only [lnv]; omega)) only [wlk, ↓get_put', ↓reduceIte, seval, hB.ln, d1]
      | (with_reducible (first | apply cd_split | apply gd_split)) <;> (intro hc; (try simp only [hcn] at hc); (try simp only [hc]); (try simp only [hcl] at hc); try omega))
    subst hQ
    rw [List.eq_nil_of_length_eq_zero h0]
    exact ⟨Ss.nil, .inl rfl, Stay.refl _ _⟩
  have d1 : ((R.length : Int) = 0) = False := eq_false (by omega)
  by_cases h1 : R.length = 1
  case pos =>
    have d2 : ((R.length : Int) = 1) = True := eq_true (by omega)
    have hes := hB.at (i := 0) (by omega)
    obtain ⟨r, rfl⟩ : ∃ r, R = [r] := by
      cases R with
      | nil => exact absurd rfl h0
      | cons a R => cases R with
        | nil => exact ⟨a, rfl⟩
        | cons b R => simp at h1
    have hr : r.length ≤ 5000 := by simpa using hfl
    have hsr : sortedE r = true := by simpa using hs
    repeat' (first
      | refine St.h ?_
      | simp (disch := first | omega | (simp only [lnv]; omega)) only [wlk, ↓get_put', ↓reduceIte, seval, hB.ln, d1, d2, hB.ix, hB.ld0]
      | (with_reducible (first | apply cd_split | apply gd_split)) <;> (intro hc; (try simp only [hcn] at hc); (try simp only [hc]); (try simp only [hcl] at hc); try omega))
    refine CL.mk (cloneE_ok (L := r) hes (by omega) hf) ?_
    rintro y h2 ⟨y1, y2, y3⟩
    repeat' (first
      | refine St.h ?_
      | simp (disch := first | omega | (simp only [lnv]; omega)) only [wlk, ↓get_put', ↓reduceIte, seval]
      | (with_reducible (first | apply cd_split | apply gd_split)) <;> (intro hc; (try simp only [hcn] at hc); (try simp only [hc]); (try simp only [hcl] at hc); try omega))
    subst hQ
    rw [rows_one hsr]
    exact ⟨y1, y2, y3⟩
  have d2 : ((R.length : Int) = 1) = False := eq_false (by omega)
  have hkl := hB.len
  have e1 : (R.length : Int) / 2 = ((R.length / 2 : Nat) : Int) := by omega
  obtain ⟨x, x1, x2, x3⟩ := Ss.hi (P := Try.prog) (kd := .i64) (k := R.length / 2) hB.ss bkC_len hw (by omega)
  obtain ⟨z, z1, z2, z3⟩ := Ss.lo (P := Try.prog) (kd := .i64) (k := R.length / 2) hB.ss bkC_len hw (by omega)
  have B1 := hB.take x1
  have B2 := hB.drop z1
  have hp := flat_parts (R := R) (R.length / 2)
  repeat' (first
    | refine St.h ?_
    | simp (disch := first | omega | (simp only [lnv]; omega)) only [wlk, ↓get_put', ↓reduceIte, seval, hB.ln, d1, d2, e1, x3, z3]
    | (with_reducible (first | apply cd_split | apply gd_split)) <;> (intro hc; (try simp only [hcn] at hc); (try simp only [hc]); (try simp only [hcl] at hc); try omega))
  refine CL.mk (ih B1 x2 (all_take _ hs) (by rw [List.length_take]; omega) (by omega) hf) ?_
  rintro y h2 ⟨y1, y2, y3⟩
  have hf2 := y3.fl hf
  repeat' (first
    | refine St.h ?_
    | simp (disch := first | omega | (simp only [lnv]; omega)) only [wlk, ↓get_put', ↓reduceIte, seval, hB.ln, d1, d2, e1, x3, z3]
    | (with_reducible (first | apply cd_split | apply gd_split)) <;> (intro hc; (try simp only [hcn] at hc); (try simp only [hc]); (try simp only [hcl] at hc); try omega))
  refine CL.mk (ih (B2.grow y3) z2 (all_drop _ hs) (by rw [List.length_drop]; omega) (by omega) hf2) ?_
  rintro u h3 ⟨u1, u2, u3⟩
  have hf3 := u3.fl hf2
  have l1 := addsE_len (L := []) (M := (R.take (R.length / 2)).flatten)
  have l2 := addsE_len (L := []) (M := (R.drop (R.length / 2)).flatten)
  simp only [List.length_nil, Nat.zero_add] at l1 l2
  repeat' (first
    | refine St.h ?_
    | simp (disch := first | omega | (simp only [lnv]; omega)) only [wlk, ↓get_put', ↓reduceIte, seval]
    | (with_reducible (first | apply cd_split | apply gd_split)) <;> (intro hc; (try simp only [hcn] at hc); (try simp only [hc]); (try simp only [hcl] at hc); try omega))
  refine CL.mk (joinTwo_ok (y1.grow u3) u1 y2 (addsE_sorted (L := []) rfl) (addsE_sorted (L := []) rfl) (by omega) hf3) ?_
  rintro w h4 ⟨w1, w2, w3⟩
  rw [rows_halves] at w1
  repeat' (first
    | refine St.h ?_
    | simp (disch := first | omega | (simp only [lnv]; omega)) only [wlk, ↓get_put', ↓reduceIte, seval]
    | (with_reducible (first | apply cd_split | apply gd_split)) <;> (intro hc; (try simp only [hcn] at hc); (try simp only [hc]); (try simp only [hcl] at hc); try omega))
  subst hQ
  exact ⟨w1, w2, (y3.trans u3).trans w3⟩
theorem join_ok : ∀ (n : Nat) {h : H} {v : V} {R : List (List Ent)} {ks : List Bk}, R.length < n → n ≤ 1001 → Bls h v R ks → SwN 1 v → R.all sortedE = true → R.flatten.length ≤ 5000 → B.val h.floor ≤ B.val h.next → FnOk Try.prog 22 [v] h fun y h' => Es h' y (addsE [] R.flatten) ∧ SwN 4 y ∧ Stay nowhere h h'
  | 0, h, v, R, ks, hn, _, _, _, _, _, _ => absurd hn (by omega)
  | n + 1, h, v, R, ks, hn, hb, hB, hw, hs, hfl, hf => join_step hB hw hs (by omega) hfl hf fun a b c d e f => join_ok n (by omega) (by omega) a b c e f
def errR (R : List (List Ent)) : Int := if (rowsE R).2 then 0 else 16
theorem mrows_ok {h : H} {v : V} {R : List (List Ent)} {ks : List Bk} (hB : Bls h v R ks) (hw : SwN 1 v) (hl : R.length ≤ 1000) (hfl : R.flatten.length ≤ 5000) (hf : B.val h.floor ≤ B.val h.next) : FnOk Try.prog 11 [v] h fun y h' =>
    ∃ w, y = .tu [w, .i .i64 (errR R)] ∧ Es h' w (rowsE R).1 ∧ SwN 4 w ∧ Stay nowhere h h' := by
  refine fn_go c11 (by intro hb; cases hb) (by simp) (by simp) fun Q hQ => ?_
  simp only [slotsF, Nat.reduceAdd]
  repeat' (first
    | refine St.h ?_
    | simp (disch := first | omega | (simp only [lnv]; omega)) only [wlk, ↓get_put', ↓reduceIte, seval, hB.ln]
    | (with_reducible (first | apply cd_split | apply gd_split)) <;> (intro hc; (try simp only [hcn] at hc); (try simp only [hc]); (try simp only [hcl] at hc); try omega))
  refine Ok.lp (fun m t g => ∃ (i : Nat), m = R.length - i ∧ i ≤ R.length ∧ get 0 t = v ∧ get 6 t = v ∧ get 7 t = .i .i64 (R.length : Int) ∧ get 8 t = .i .i64 (i : Int) ∧ Stay nowhere h g ∧ (∀ q, q < i → sortedE (R.getD q []) = true)) R.length ?_ ?_
  · simp (disch := first | omega | (simp only [lnv]; omega)) only [wlk, ↓get_put', ↓reduceIte, seval]
    refine ⟨0, by omega, by omega, ?_⟩
    refine ⟨?_, ?_, ?_, ?_, Stay.refl _ _, fun q hq => by omega⟩
    all_goals first | trivial | rfl
  rintro I hI m t g ⟨i, rfl, hi, f0, f6, f7, f8, st, hso⟩
  have hfg := st.fl hf
  have hBg := hB.grow st
  by_cases hil : i < R.length
  case neg =>
    obtain rfl : i = R.length := by omega
    have hall : R.all sortedE = true := by
      rw [List.all_eq_true]
      intro a ha
      obtain ⟨q, hq, rfl⟩ := List.getElem_of_mem ha
      have := hso q hq
      rwa [List.getD_eq_getElem?_getD, List.getElem?_eq_getElem hq] at this
    repeat' (first
      | refine St.h ?_
      | simp (disch := first | omega | (simp only [lnv]; omega)) only [wlk, ↓get_put', ↓reduceIte, seval, f0, f6, f7, f8]
      | (with_reducible (first | apply cd_split | apply gd_split)) <;> (intro hc; (try simp only [hcn] at hc); (try simp only [hc]); (try simp only [hcl] at hc); try omega))
    refine CL.mk (join_ok (R.length + 1) (by omega) (by omega) hBg hw hall hfl hfg) ?_
    rintro y h2 ⟨y1, y2, y3⟩
    repeat' (first
      | refine St.h ?_
      | simp (disch := first | omega | (simp only [lnv]; omega)) only [wlk, ↓get_put', ↓reduceIte, seval]
      | (with_reducible (first | apply cd_split | apply gd_split)) <;> (intro hc; (try simp only [hcn] at hc); (try simp only [hc]); (try simp only [hcl] at hc); try omega))
    subst hQ
    refine ⟨y, ?_, by rw [rowsE_ok hall]; exact y1, y2, st.trans y3⟩
    unfold errR; rw [rowsE_ok hall]; rfl
  have hes := hBg.at hil
  have hla := flat_len_at hil
  repeat' (first
    | refine St.h ?_
    | simp (disch := first | omega | (simp only [lnv]; omega)) only [wlk, ↓get_put', ↓reduceIte, seval, f0, f6, f7, f8, hB.ix hil, hBg.ld hil, Int.toNat_natCast]
    | (with_reducible (first | apply cd_split | apply gd_split)) <;> (intro hc; (try simp only [hcn] at hc); (try simp only [hc]); (try simp only [hcl] at hc); try omega))
  refine CL.stay (sorted_ok hes (by omega) hfg) fun g1 t1 => ?_
  have st1 := st.trans t1
  cases hs : sortedE (R.getD i []) with
  | false =>
    have hall : R.all sortedE = false := by
      rw [List.all_eq_false]
      refine ⟨R.getD i [], ?_, by rw [hs]; simp⟩
      rw [List.getD_eq_getElem?_getD, List.getElem?_eq_getElem hil]; simp
    repeat' (first
      | refine St.h ?_
      | simp (disch := first | omega | (simp only [lnv]; omega)) only [wlk, ↓get_put', ↓reduceIte, seval]
      | (with_reducible (first | apply cd_split | apply gd_split)) <;> (intro hc; (try simp only [hcn] at hc); (try simp only [hc]); (try simp only [hcl] at hc); try omega))
    subst hQ
    refine ⟨.l0, ?_, by rw [rowsE_bad hall]; exact Ss.nil, .inl rfl, st1⟩
    unfold errR; rw [rowsE_bad hall]; rfl
  | true =>
    repeat' (first
      | refine St.h ?_
      | simp (disch := first | omega | (simp only [lnv]; omega)) only [wlk, ↓get_put', ↓reduceIte, seval, f0, f6, f7, f8]
      | (with_reducible (first | apply cd_split | apply gd_split)) <;> (intro hc; (try simp only [hcn] at hc); (try simp only [hc]); (try simp only [hcl] at hc); try omega))
    refine lp_next hI (R.length - (i + 1)) (by omega) ⟨i + 1, rfl, by omega, by simp (disch := first | omega | (simp only [lnv]; omega)) only [wlk, ↓get_put', ↓reduceIte, seval, f0], by simp (disch := first | omega | (simp only [lnv]; omega)) only [wlk, ↓get_put', ↓reduceIte, seval, f6], by simp (disch := first | omega | (simp only [lnv]; omega)) only [wlk, ↓get_put', ↓reduceIte, seval, f7], by simp (disch := first | omega | (simp only [lnv]; omega)) only [wlk, ↓get_put', ↓reduceIte, seval, f8]; rfl, st1, fun q hq => ?_⟩
    by_cases e : q = i
    · rw [e]; exact hs
    · exact hso q (by omega)
theorem vis_none {G : List Ent} {s : Int} (h : ∀ p, p < G.length → s < (G.getD p default).seq) : G.filter (visP G s) = [] := by
  rw [List.filter_eq_nil_iff]
  intro a ha
  obtain ⟨p, hp, rfl⟩ := mem_getD ha
  have := h p hp
  unfold visP
  rw [decide_eq_false (by omega)]; simp
theorem vis_hit {G : List Ent} {s : Int} {q : Nat} (hs : sortedE G = true) (hk : ∀ a ∈ G, ∀ b ∈ G, a.key = b.key) (h : ∀ p, p < q → s < (G.getD p default).seq) (hq : q < G.length) (hle : (G.getD q default).seq ≤ s) : G.filter (visP G s) = if (G.getD q default).del then [] else [G.getD q default] := by
  have e1 : (G.take q).filter (visP G s) = [] := by
    rw [List.filter_eq_nil_iff]
    intro a ha
    obtain ⟨p, hp, rfl⟩ := List.getElem_of_mem ha
    rw [List.length_take] at hp
    have := h p (by omega)
    rw [List.getD_eq_getElem?_getD, List.getElem?_eq_getElem (by omega), Option.getD_some] at this
    rw [List.getElem_take]
    unfold visP
    rw [decide_eq_false (by omega)]; simp
  have e2 : (G.drop (q + 1)).filter (visP G s) = [] := by
    rw [List.filter_eq_nil_iff]
    intro a ha
    obtain ⟨p, hp, rfl⟩ := List.getElem_of_mem ha
    have hp2 := hp
    rw [List.length_drop] at hp2
    have hpw := pw_at hs (show q < q + 1 + p by omega) (by omega)
    have hd : G.getD (q + 1 + p) default = (G.drop (q + 1))[p] := by
      rw [List.getElem_drop, List.getD_eq_getElem?_getD, List.getElem?_eq_getElem (by omega)]; rfl
    rw [hd] at hpw
    have hkk := hk _ (getD_memE hq) _ (List.mem_of_mem_drop (List.getElem_mem hp))
    have hn : newer G (G.drop (q + 1))[p] s = true := newer_iff.2 ⟨_, getD_memE hq, hkk, less_same hpw hkk, hle⟩
    unfold visP
    rw [hn]; simp
  have e3 : newer G (G.getD q default) s = false := by
    cases hh : newer G (G.getD q default) s with
    | false => rfl
    | true =>
      obtain ⟨a1, a2, a3⟩ := (newer_at hs hq).1 hh
      have := h (q - 1) (by omega); omega
  have e4 : visP G s (G.getD q default) = !(G.getD q default).del := by
    unfold visP
    rw [decide_eq_true hle, e3]; simp
  have e5 : G = G.take q ++ G.getD q default :: G.drop (q + 1) := by rw [← drop_entM hq, List.take_append_drop]
  generalize hW : visP G s = W at *
  generalize hE : G.getD q default = E at *
  rw [e5, List.filter_append, e1, List.nil_append, List.filter_cons, e2, e4]
  cases E.del <;> rfl
theorem fm_take_succ {α : Type} {R : List (List Ent)} {f : List Ent → List α} {r : Nat} (hr : r < R.length) : (R.take (r + 1)).flatMap f = (R.take r).flatMap f ++ f (R.getD r []) := by
  rw [List.take_succ, List.flatMap_append]; congr 1; simp [List.getD, hr]
theorem fm_le {f : List Ent → List Ent} (h : ∀ g, (f g).length ≤ g.length) : ∀ R : List (List Ent), (R.flatMap f).length ≤ R.flatten.length
  | [] => Nat.le_refl _
  | g :: R => by
    rw [List.flatMap_cons, List.flatten_cons, List.length_append, List.length_append]
    exact Nat.add_le_add (h g) (fm_le h R)
theorem getD_memR {R : List (List Ent)} {r : Nat} (hr : r < R.length) : R.getD r [] ∈ R := by
  rw [List.getD_eq_getElem?_getD, List.getElem?_eq_getElem hr]; simp
theorem mvis_ok {h : H} {v : V} {L : List Ent} {s : Int} (hL : Es h v L) (hw : SwN 4 v) (hl : L.length ≤ 5000) (hs1 : -9223372036854775808 ≤ s) (hs2 : s ≤ 9223372036854775807) (hf : B.val h.floor ≤ B.val h.next) : FnOk Try.prog 14 [v, .i .i64 s] h fun y h' =>
    Es h' y (visE L s) ∧ SwN 4 y ∧ Stay nowhere h h' := by
  refine fn_go c14 (by intro hb; cases hb) (by simp) (by simp) fun Q hQ => ?_
  simp only [slotsF, Nat.reduceAdd]
  repeat' (first
    | refine St.h ?_
    | simp (disch := first | omega | (simp only [lnv]; omega)) only [wlk, ↓get_put', ↓reduceIte, seval]
    | (with_reducible (first | apply cd_split | apply gd_split)) <;> (intro hc; (try simp only [hcn] at hc); (try simp only [hc]); (try simp only [hcl] at hc); try omega))
  refine CL.stay (sorted_ok hL (by omega) hf) fun h1 s1 => ?_
  have hf1 := s1.fl hf
  cases hs : sortedE L with
  | false =>
    repeat' (first
      | refine St.h ?_
      | simp (disch := first | omega | (simp only [lnv]; omega)) only [wlk, ↓get_put', ↓reduceIte, seval]
      | (with_reducible (first | apply cd_split | apply gd_split)) <;> (intro hc; (try simp only [hcn] at hc); (try simp only [hc]); (try simp only [hcl] at hc); try omega))
    subst hQ
    exact ⟨by rw [visE_un hs]; exact Ss.nil, .inl rfl, s1⟩
  | true =>
  repeat' (first
    | refine St.h ?_
    | simp (disch := first | omega | (simp only [lnv]; omega)) only [wlk, ↓get_put', ↓reduceIte, seval]
    | (with_reducible (first | apply cd_split | apply gd_split)) <;> (intro hc; (try simp only [hcn] at hc); (try simp only [hc]); (try simp only [hcl] at hc); try omega))
  refine CL.mk (byKey_ok (hL.grow s1) hw hs hl hf1) ?_
  rintro rv h2 ⟨R, ks, hB, G, hRl, s2⟩
  have hf2 := s2.fl hf1
  have hflat : R.flatten.length ≤ 5000 := by rw [G.flat]; exact hl
  have hfle : ∀ k, ((R.take k).flatMap fun g => g.filter (visP g s)).length ≤ 5000 := fun k => by
    have h1 := fm_le (f := fun g => g.filter (visP g s)) (fun g => List.length_filter_le _ _) (R.take k)
    have h2 := flat_parts (R := R) k
    omega
  repeat' (first
    | refine St.h ?_
    | simp (disch := first | omega | (simp only [lnv]; omega)) only [wlk, ↓get_put', ↓reduceIte, seval, hB.ln]
    | (with_reducible (first | apply cd_split | apply gd_split)) <;> (intro hc; (try simp only [hcn] at hc); (try simp only [hc]); (try simp only [hcl] at hc); try omega))
  refine Ok.lp (fun m t g => ∃ (r : Nat) (w : V), m = R.length - r ∧ r ≤ R.length ∧ get 1 t = .i .i64 s ∧ get 5 t = w ∧ get 14 t = rv ∧ get 15 t = .i .i64 (R.length : Int) ∧ get 16 t = .i .i64 (r : Int) ∧ Stay nowhere h2 g ∧ Buf g 39 4 w (((R.take r).flatMap fun g => g.filter (visP g s)).flatMap entC) ∧ (∀ q, isOf w q → B.val h2.next ≤ B.val q)) R.length ?_ ?_
  · simp (disch := first | omega | (simp only [lnv]; omega)) only [wlk, ↓get_put', ↓reduceIte, seval]
    refine ⟨0, .l0, by omega, by omega, ?_⟩
    refine ⟨?_, ?_, ?_, ?_, ?_, Stay.refl _ _, Buf.nil _ _ _, ?_⟩
    rotate_right
    · rintro i ⟨_, _, _, _, _, e⟩; cases e
    all_goals first | trivial | rfl
  rintro I hI m t g ⟨r, w, rfl, hr, f1, f5, f14, f15, f16, st, bf, own⟩
  have hfg := st.fl hf2
  have hBg := hB.grow st
  by_cases hrl : r < R.length
  case neg =>
    obtain rfl : r = R.length := by omega
    rw [List.take_length, ← G.vis] at bf
    repeat' (first
      | refine St.h ?_
      | simp (disch := first | omega | (simp only [lnv]; omega)) only [wlk, ↓get_put', ↓reduceIte, seval, f1, f5, f14, f15, f16]
      | (with_reducible (first | apply cd_split | apply gd_split)) <;> (intro hc; (try simp only [hcn] at hc); (try simp only [hc]); (try simp only [hcl] at hc); try omega))
    subst hQ
    exact ⟨by rw [visE_ok hs]; exact Ss.buf bf rfl entC_len (by omega), swn_bufE bf, (s1.trans s2).trans st⟩
  have hmem := getD_memR hrl
  have hes := hBg.at hrl
  have hsg : sortedE (R.getD r []) = true := sub_sorted (G.sub hmem) hs
  have hkg := G.same _ hmem
  have hsu := fm_take_succ (f := fun g => g.filter (visP g s)) hrl
  have hlg := flat_len_at hrl
  have hb1 := hfle r
  generalize hgr : R.getD r [] = gr at *
  repeat' (first
    | refine St.h ?_
    | simp (disch := first | omega | (simp only [lnv]; omega)) only [wlk, ↓get_put', ↓reduceIte, seval, f1, f5, f14, f15, f16, hB.ix hrl, hBg.ld hrl, hes.ln, Int.toNat_natCast]
    | (with_reducible (first | apply cd_split | apply gd_split)) <;> (intro hc; (try simp only [hcn] at hc); (try simp only [hc]); (try simp only [hcl] at hc); try omega))
  refine Ok.lp (fun m t g => ∃ (q : Nat), m = gr.length - q ∧ q ≤ gr.length ∧ get 1 t = .i .i64 s ∧ get 5 t = w ∧ get 14 t = rv ∧ get 15 t = .i .i64 (R.length : Int) ∧ get 16 t = .i .i64 (r : Int) ∧ get 20 t = (ks.getD r default).v ∧ get 21 t = .i .i64 (gr.length : Int) ∧ get 22 t = .i .i64 (q : Int) ∧ Stay nowhere h2 g ∧ Buf g 39 4 w (((R.take r).flatMap fun g => g.filter (visP g s)).flatMap entC) ∧ (∀ p, p < q → s < (gr.getD p default).seq)) gr.length ?_ ?_
  · simp (disch := first | omega | (simp only [lnv]; omega)) only [wlk, ↓get_put', ↓reduceIte, seval, f1, f5, f14, f15, f16]
    refine ⟨0, by omega, by omega, ?_⟩
    refine ⟨?_, ?_, ?_, ?_, ?_, ?_, ?_, ?_, st, bf, fun p hp => by omega⟩
    all_goals first | trivial | rfl
  rintro I2 hI2 m2 t2 g2 ⟨q, rfl, hq, e1, e5, e14, e15, e16, e20, e21, e22, st, bf, hno⟩
  have hfg := st.fl hf2
  have hesg : Es g2 (ks.getD r default).v gr := by have := (hB.grow st).at hrl; rwa [hgr] at this
  by_cases hql : q < gr.length
  case neg =>
    obtain rfl : q = gr.length := by omega
    have hv := vis_none (s := s) hno
    have hsu : (R.take (r + 1)).flatMap (fun g => g.filter (visP g s)) = (R.take r).flatMap fun g => g.filter (visP g s) := by rw [hsu]; simp only [hv, List.append_nil]
    repeat' (first
      | refine St.h ?_
      | simp (disch := first | omega | (simp only [lnv]; omega)) only [wlk, ↓get_put', ↓reduceIte, seval, e1, e5, e14, e15, e16, e20, e21, e22]
      | (with_reducible (first | apply cd_split | apply gd_split)) <;> (intro hc; (try simp only [hcn] at hc); (try simp only [hc]); (try simp only [hcl] at hc); try omega))
    exact lp_next hI (R.length - (r + 1)) (by omega) ⟨r + 1, w, rfl, by omega, by simp (disch := first | omega | (simp only [lnv]; omega)) only [wlk, ↓get_put', ↓reduceIte, seval, e1], by simp (disch := first | omega | (simp only [lnv]; omega)) only [wlk, ↓get_put', ↓reduceIte, seval, e5], by simp (disch := first | omega | (simp only [lnv]; omega)) only [wlk, ↓get_put', ↓reduceIte, seval, e14], by simp (disch := first | omega | (simp only [lnv]; omega)) only [wlk, ↓get_put', ↓reduceIte, seval, e15], by simp (disch := first | omega | (simp only [lnv]; omega)) only [wlk, ↓get_put', ↓reduceIte, seval, e16]; rfl, st, by rw [hsu]; exact bf, own⟩
  repeat' (first
    | refine St.h ?_
    | simp (disch := first | omega | (simp only [lnv]; omega)) only [wlk, ↓get_put', ↓reduceIte, seval, e1, e5, e14, e15, e16, e20, e21, e22, hesg.ix, hesg.la, Int.toNat_natCast]
    | (with_reducible (first | apply cd_split | apply gd_split)) <;> (intro hc; (try simp only [hcn] at hc); (try simp only [hc]); (try simp only [hcl] at hc); try omega))
  refine AL.own (by simp) hfg fun g3 t3 _ o3 => ?_
  have hfg3 := t3.fl hfg
  repeat' (first
    | refine St.h ?_
    | simp (disch := first | omega | (simp only [lnv]; omega)) only [wlk, ↓get_put', ↓reduceIte, seval, e1, e5, e14, e15, e16, e20, e21, e22, hesg.ix, hesg.la, Int.toNat_natCast]
    | (with_reducible (first | apply cd_split | apply gd_split)) <;> (intro hc; (try simp only [hcn] at hc); (try simp only [hc]); (try simp only [hcl] at hc); try omega))
  refine ST.all o3 rfl rfl (by simp) (by simp) fun g4 o4 t4 => ?_
  have t34 : Stay nowhere g2 g4 := t3.past' t4 fun q hq => by rw [hq]; exact Nat.le_refl _
  have st4 := st.trans t34
  have hfg4 := t34.fl hfg
  have bf4 := bf.grow t34
  by_cases hnew : s < (gr.getD q default).seq
  case pos =>
    repeat' (first
      | refine St.h ?_
      | simp (disch := first | omega | (simp only [lnv]; omega)) only [wlk, ↓get_put', ↓reduceIte, seval, e1, e5, e14, e15, e16, e20, e21, e22, o4.row.l1]
      | (with_reducible (first | apply cd_split | apply gd_split)) <;> (intro hc; (try simp only [hcn] at hc); (try simp only [hc]); (try simp only [hcl] at hc); try omega))
    refine lp_next hI2 (gr.length - (q + 1)) (by omega) ⟨q + 1, rfl, by omega, by simp (disch := first | omega | (simp only [lnv]; omega)) only [wlk, ↓get_put', ↓reduceIte, seval, e1], by simp (disch := first | omega | (simp only [lnv]; omega)) only [wlk, ↓get_put', ↓reduceIte, seval, e5], by simp (disch := first | omega | (simp only [lnv]; omega)) only [wlk, ↓get_put', ↓reduceIte, seval, e14], by simp (disch := first | omega | (simp only [lnv]; omega)) only [wlk, ↓get_put', ↓reduceIte, seval, e15], by simp (disch := first | omega | (simp only [lnv]; omega)) only [wlk, ↓get_put', ↓reduceIte, seval, e16], by simp (disch := first | omega | (simp only [lnv]; omega)) only [wlk, ↓get_put', ↓reduceIte, seval, e20], by simp (disch := first | omega | (simp only [lnv]; omega)) only [wlk, ↓get_put', ↓reduceIte, seval, e21], by simp (disch := first | omega | (simp only [lnv]; omega)) only [wlk, ↓get_put', ↓reduceIte, seval, e22]; rfl, st4, bf4, fun p hp => ?_⟩
    by_cases e : p = q
    · rw [e]; exact hnew
    · exact hno p (by omega)
  have hv := vis_hit hsg hkg hno hql (by omega)
  cases hd : (gr.getD q default).del with
  | true =>
    rw [hd, if_pos rfl] at hv
    have hsu : (R.take (r + 1)).flatMap (fun g => g.filter (visP g s)) = (R.take r).flatMap fun g => g.filter (visP g s) := by rw [hsu]; simp only [hv, List.append_nil]
    repeat' (first
      | refine St.h ?_
      | simp (disch := first | omega | (simp only [lnv]; omega)) only [wlk, ↓get_put', ↓reduceIte, seval, e1, e5, e14, e15, e16, e20, e21, e22, o4.row.l1, hd]
      | (with_reducible (first | apply cd_split | apply gd_split)) <;> (intro hc; (try simp only [hcn] at hc); (try simp only [hc]); (try simp only [hcl] at hc); try omega))
    exact lp_next hI (R.length - (r + 1)) (by omega) ⟨r + 1, w, rfl, by omega, by simp (disch := first | omega | (simp only [lnv]; omega)) only [wlk, ↓get_put', ↓reduceIte, seval, e1], by simp (disch := first | omega | (simp only [lnv]; omega)) only [wlk, ↓get_put', ↓reduceIte, seval, e5], by simp (disch := first | omega | (simp only [lnv]; omega)) only [wlk, ↓get_put', ↓reduceIte, seval, e14], by simp (disch := first | omega | (simp only [lnv]; omega)) only [wlk, ↓get_put', ↓reduceIte, seval, e15], by simp (disch := first | omega | (simp only [lnv]; omega)) only [wlk, ↓get_put', ↓reduceIte, seval, e16]; rfl, st4, by rw [hsu]; exact bf4, own⟩
  | false =>
    rw [hd, if_neg (by simp)] at hv
    have hsu : (R.take (r + 1)).flatMap (fun g => g.filter (visP g s)) = ((R.take r).flatMap fun g => g.filter (visP g s)) ++ [gr.getD q default] := by rw [hsu]; simp only [hv]
    have hfm := fm_len entC_len ((R.take r).flatMap fun g => g.filter (visP g s))
    repeat' (first
      | refine St.h ?_
      | simp (disch := first | omega | (simp only [lnv]; omega)) only [wlk, ↓get_put', ↓reduceIte, seval, e1, e5, e14, e15, e16, e20, e21, e22, o4.row.l1, o4.row.ln, hd]
      | (with_reducible (first | apply cd_split | apply gd_split)) <;> (intro hc; (try simp only [hcn] at hc); (try simp only [hc]); (try simp only [hcl] at hc); try omega))
    refine AL.own (by simp) hfg4 fun g5 t5 _ o5 => ?_
    have hfg5 := t5.fl hfg4
    have bf5 := bf4.grow t5
    repeat' (first
      | refine St.h ?_
      | simp (disch := first | omega | (simp only [lnv]; omega)) only [wlk, ↓get_put', ↓reduceIte, seval, e1, e5, e14, e15, e16, e20, e21, e22]
      | (with_reducible (first | apply cd_split | apply gd_split)) <;> (intro hc; (try simp only [hcn] at hc); (try simp only [hc]); (try simp only [hcl] at hc); try omega))
    refine AP.buf (vs := entC (gr.getD q default)) (cnt := 1) bf5 (new_row (by unfold entC; rw [hd]; exact o5.row) rfl (Nat.le_refl _) (by omega) (by show 4 ≤ 4; omega)) hfg5 (by omega) rfl rfl (by rw [hfm, entC_len]; omega) fun u' g6 b6 t6 ho tp => ?_
    have s6 : Stay nowhere h2 g6 := (st4.trans t5).past' t6 fun q hq => own q hq
    repeat' (first
      | refine St.h ?_
      | simp (disch := first | omega | (simp only [lnv]; omega)) only [wlk, ↓get_put', ↓reduceIte, seval, e1, e5, e14, e15, e16, e20, e21, e22]
      | (with_reducible (first | apply cd_split | apply gd_split)) <;> (intro hc; (try simp only [hcn] at hc); (try simp only [hc]); (try simp only [hcl] at hc); try omega))
    refine lp_next hI (R.length - (r + 1)) (by omega) ⟨r + 1, u', rfl, by omega, by simp (disch := first | omega | (simp only [lnv]; omega)) only [wlk, ↓get_put', ↓reduceIte, seval, e1], by simp (disch := first | omega | (simp only [lnv]; omega)) only [wlk, ↓get_put', ↓reduceIte, seval], by simp (disch := first | omega | (simp only [lnv]; omega)) only [wlk, ↓get_put', ↓reduceIte, seval, e14], by simp (disch := first | omega | (simp only [lnv]; omega)) only [wlk, ↓get_put', ↓reduceIte, seval, e15], by simp (disch := first | omega | (simp only [lnv]; omega)) only [wlk, ↓get_put', ↓reduceIte, seval, e16]; rfl, s6, by rw [hsu, List.flatMap_append]; simpa using b6, fun p hp => ?_⟩
    rcases ho p hp with h1 | h1
    · exact own p h1
    · have := st4.next; have := t5.next; omega
/-- append to a clone of ints -/
theorem AP.clI {P : Program} {h0 h : H} {N : Nx} {y x : V} {S : List Int} {z : Int} (c : ClI h0 h y S) (s0 : Stay nowhere h0 h) (hx : ∀ k : Nat → List V → Bool, newCells 1 x h k = k 1 [.i .i64 z]) (hf : B.val h.floor ≤ B.val h.next) (hl : S.length ≤ 1000)
    (k : ∀ v' h', Buf h' 3 1 v' ((S ++ [z]).map (V.i .i64)) → Top h' v' → Stay nowhere h0 h' → (∀ i, isOf v' i → B.val h0.next ≤ B.val i) → N.go P v' h') : AP P 3 1 y x h N := by
  rcases c with ⟨rfl, id, g, off, fin, rfl⟩ | ⟨b, own⟩
  · refine AP.e1 hx hf rfl (by omega) (by simp) (fun e => by omega) fun h' _ s2 n2 b2 tp2 => k _ h' b2 tp2 (s0.trans s2) ?_
    rintro q ⟨_, _, _, _, _, e⟩
    cases e; exact s0.next
  · refine AP.buf b hx hf (by omega) rfl rfl (by simp; omega) fun v' h' b2 s2 ho tp => k v' h' (by rw [List.map_append]; exact b2) tp (s0.past' s2 fun q hq => own q hq) fun i hi => ?_
    rcases ho i hi with h1 | h1
    · exact own i h1
    · have := s0.next; omega
theorem mpack_ok {h : H} {v u : V} {L : List Ent} {S : List Int} {b : Bool} (hL : Es h v L) (hw : SwN 4 v) (hS : Kl h .i64 u S) (hl : L.length ≤ 5000) (hsl : S.length ≤ 10) (hwr : ∀ n ∈ S, -9223372036854775808 ≤ n ∧ n ≤ 9223372036854775807) (hf : B.val h.floor ≤ B.val h.next) : FnOk Try.prog 16 [v, u, .b b] h fun y h' =>
    Es h' y (packE L S b) ∧ SwN 4 y ∧ Stay nowhere h h' := by
  refine fn_go c16 (by intro hb; cases hb) (by simp) (by simp) fun Q hQ => ?_
  simp only [slotsF, Nat.reduceAdd]
  repeat' (first
    | refine St.h ?_
    | simp (disch := first | omega | (simp only [lnv]; omega)) only [wlk, ↓get_put', ↓reduceIte, seval]
    | (with_reducible (first | apply cd_split | apply gd_split)) <;> (intro hc; (try simp only [hcn] at hc); (try simp only [hc]); (try simp only [hcl] at hc); try omega))
  refine CL.stay (sorted_ok hL (by omega) hf) fun h1 s1 => ?_
  have hf1 := s1.fl hf
  have hL1 := hL.grow s1
  cases hs : sortedE L with
  | false =>
    repeat' (first
      | refine St.h ?_
      | simp (disch := first | omega | (simp only [lnv]; omega)) only [wlk, ↓get_put', ↓reduceIte, seval]
      | (with_reducible (first | apply cd_split | apply gd_split)) <;> (intro hc; (try simp only [hcn] at hc); (try simp only [hc]); (try simp only [hcl] at hc); try omega))
    subst hQ
    exact ⟨by rw [packE_bad (.inr hs)]; exact Ss.nil, .inl rfl, s1⟩
  | true =>
  repeat' (first
    | refine St.h ?_
    | simp (disch := first | omega | (simp only [lnv]; omega)) only [wlk, ↓get_put', ↓reduceIte, seval]
    | (with_reducible (first | apply cd_split | apply gd_split)) <;> (intro hc; (try simp only [hcn] at hc); (try simp only [hc]); (try simp only [hcl] at hc); try omega))
  refine CL.stay (anyNone_ok hL1 (by omega) hf1) fun h2 s2 => ?_
  have hf2 := s2.fl hf1
  have hL2 := hL1.grow s2
  cases ha : L.all isE with
  | false =>
    repeat' (first
      | refine St.h ?_
      | simp (disch := first | omega | (simp only [lnv]; omega)) only [wlk, ↓get_put', ↓reduceIte, seval]
      | (with_reducible (first | apply cd_split | apply gd_split)) <;> (intro hc; (try simp only [hcn] at hc); (try simp only [hc]); (try simp only [hcl] at hc); try omega))
    subst hQ
    exact ⟨by rw [packE_bad (.inl ha)]; exact Ss.nil, .inl rfl, s1.trans s2⟩
  | true =>
  have st2 := s1.trans s2
  repeat' (first
    | refine St.h ?_
    | simp (disch := first | omega | (simp only [lnv]; omega)) only [wlk, ↓get_put', ↓reduceIte, seval]
    | (with_reducible (first | apply cd_split | apply gd_split)) <;> (intro hc; (try simp only [hcn] at hc); (try simp only [hc]); (try simp only [hcl] at hc); try omega))
  refine CL.mk (cloneI_ok (Lst.grow hS st2) (by omega) hf2) ?_
  rintro y3 h3 ⟨c3, s3⟩
  have hf3 := s3.fl hf2
  repeat' (first
    | refine St.h ?_
    | simp (disch := first | omega | (simp only [lnv]; omega)) only [wlk, ↓get_put', ↓reduceIte, seval]
    | (with_reducible (first | apply cd_split | apply gd_split)) <;> (intro hc; (try simp only [hcn] at hc); (try simp only [hc]); (try simp only [hcl] at hc); try omega))
  refine AL.own (by simp) hf3 fun h4 s4 _ o4 => ?_
  have hf4 := s4.fl hf3
  have c4 : ClI h2 h4 y3 S := by
    rcases c3 with c | ⟨c, d⟩
    · exact .inl c
    · exact .inr ⟨c.grow s4, d⟩
  repeat' (first
    | refine St.h ?_
    | simp (disch := first | omega | (simp only [lnv]; omega)) only [wlk, ↓get_put', ↓reduceIte, seval]
    | (with_reducible (first | apply cd_split | apply gd_split)) <;> (intro hc; (try simp only [hcn] at hc); (try simp only [hc]); (try simp only [hcl] at hc); try omega))
  refine AP.clI c4 (s3.trans s4) (new_row o4.row rfl (Nat.le_refl _) (by omega) (by show 1 ≤ 1; omega)) hf4 (by omega) fun v5 h5 b5 tp5 s5 own5 => ?_
  have hf5 := s5.fl hf2
  repeat' (first
    | refine St.h ?_
    | simp (disch := first | omega | (simp only [lnv]; omega)) only [wlk, ↓get_put', ↓reduceIte, seval]
    | (with_reducible (first | apply cd_split | apply gd_split)) <;> (intro hc; (try simp only [hcn] at hc); (try simp only [hc]); (try simp only [hcl] at hc); try omega))
  refine CL.mk (sort_ok b5 tp5 (by simp; omega) (fun n hn => ?_) hf5) ?_
  · rcases List.mem_append.1 hn with m | m
    · exact hwr n m
    · rw [List.mem_singleton.1 m]; omega
  rintro y6 h6 ⟨T, srt, hT, hTl, bT, tT, s6⟩
  have st6 : Stay nowhere h2 h6 := s5.past' s6 own5
  have hf6 := st6.fl hf2
  have hTm : ∀ n, n ∈ T ↔ n ∈ S ∨ n = 1000000 := fun n => by rw [hT, List.mem_append, List.mem_singleton]
  have hTl : T.length ≤ 11 := by rw [hTl]; simp; omega
  repeat' (first
    | refine St.h ?_
    | simp (disch := first | omega | (simp only [lnv]; omega)) only [wlk, ↓get_put', ↓reduceIte, seval]
    | (with_reducible (first | apply cd_split | apply gd_split)) <;> (intro hc; (try simp only [hcn] at hc); (try simp only [hc]); (try simp only [hcl] at hc); try omega))
  refine CL.mk (byKey_ok (hL2.grow st6) hw hs hl hf6) ?_
  rintro rv h7 ⟨R, ks, hB, G, hRl, s7⟩
  have hf7 := s7.fl hf6
  have hT7 : Lst h7 v5 (T.map (V.i .i64)) := (bT.grow s7).lst
  have hflat : R.flatten.length ≤ 5000 := by rw [G.flat]; exact hl
  have hfle : ∀ k, ((R.take k).flatMap (keepG S b)).length ≤ 5000 := fun k => by
    have h1 := fm_le (f := keepG S b) (fun g => keepG_sub.length_le) (R.take k)
    have h2 := flat_parts (R := R) k
    omega
  repeat' (first
    | refine St.h ?_
    | simp (disch := first | omega | (simp only [lnv]; omega)) only [wlk, ↓get_put', ↓reduceIte, seval, hB.ln]
    | (with_reducible (first | apply cd_split | apply gd_split)) <;> (intro hc; (try simp only [hcn] at hc); (try simp only [hc]); (try simp only [hcl] at hc); try omega))
  refine Ok.lp (fun m t g => ∃ (r : Nat) (w : V), m = R.length - r ∧ r ≤ R.length ∧ get 2 t = .b b ∧ get 7 t = v5 ∧ get 8 t = w ∧ get 26 t = rv ∧ get 27 t = .i .i64 (R.length : Int) ∧ get 28 t = .i .i64 (r : Int) ∧ Stay nowhere h7 g ∧ Buf g 39 4 w (((R.take r).flatMap (keepG S b)).flatMap entC) ∧ (∀ q, isOf w q → B.val h7.next ≤ B.val q)) R.length ?_ ?_
  · simp (disch := first | omega | (simp only [lnv]; omega)) only [wlk, ↓get_put', ↓reduceIte, seval]
    refine ⟨0, .l0, by omega, by omega, ?_⟩
    refine ⟨?_, ?_, ?_, ?_, ?_, ?_, Stay.refl _ _, Buf.nil _ _ _, ?_⟩
    rotate_right
    · rintro i ⟨_, _, _, _, _, e⟩; cases e
    all_goals first | trivial | rfl
  rintro I hI m t g ⟨r, w, rfl, hr, f2, f7, f8, f26, f27, f28, st, bf, own⟩
  have hfg := st.fl hf7
  have hBg := hB.grow st
  by_cases hrl : r < R.length
  case neg =>
    obtain rfl : r = R.length := by omega
    rw [List.take_length, ← G.pack ha hs] at bf
    repeat' (first
      | refine St.h ?_
      | simp (disch := first | omega | (simp only [lnv]; omega)) only [wlk, ↓get_put', ↓reduceIte, seval, f2, f7, f8, f26, f27, f28]
      | (with_reducible (first | apply cd_split | apply gd_split)) <;> (intro hc; (try simp only [hcn] at hc); (try simp only [hc]); (try simp only [hcl] at hc); try omega))
    subst hQ
    exact ⟨Ss.buf bf rfl entC_len (by omega), swn_bufE bf, ((st2.trans st6).trans s7).trans st⟩
  have hmem := getD_memR hrl
  have hes := hBg.at hrl
  have hsub := G.sub hmem
  have hsg : sortedE (R.getD r []) = true := sub_sorted hsub hs
  have hkg := G.same _ hmem
  have hag : (R.getD r []).all isE = true := by
    rw [List.all_eq_true] at ha ⊢
    exact fun x hx => ha x (hsub.subset hx)
  have hsu := fm_take_succ (f := keepG S b) hrl
  have hlg := flat_len_at hrl
  have hb1 := hfle r
  have hb2 := hfle (r + 1)
  have hfm := fm_len entC_len ((R.take r).flatMap (keepG S b))
  generalize hgr : R.getD r [] = gr at *
  repeat' (first
    | refine St.h ?_
    | simp (disch := first | omega | (simp only [lnv]; omega)) only [wlk, ↓get_put', ↓reduceIte, seval, f2, f7, f8, f26, f27, f28, hB.ix hrl, hBg.ld hrl, Int.toNat_natCast]
    | (with_reducible (first | apply cd_split | apply gd_split)) <;> (intro hc; (try simp only [hcn] at hc); (try simp only [hc]); (try simp only [hcl] at hc); try omega))
  refine CL.mk (seenBy_ok hes (hT7.grow st) srt hTm hag hsg hkg (by omega) (by omega) hfg) ?_
  rintro y9 g9 ⟨u9, w9, t9⟩
  have hfg9 := t9.fl hfg
  have bf9 := bf.grow t9
  have st9 := st.trans t9
  rw [hsu, List.length_append] at hb2
  have hfl : (gr.filter (wantP gr S)).length ≤ gr.length := List.length_filter_le _ _
  cases b with
  | false =>
    have hkp : keepG S false gr = gr.filter (wantP gr S) := rfl
    rw [hkp] at hsu hb2
    have hfm2 := fm_len entC_len (gr.filter (wantP gr S))
    repeat' (first
      | refine St.h ?_
      | simp (disch := first | omega | (simp only [lnv]; omega)) only [wlk, ↓get_put', ↓reduceIte, seval, f2, f7, f8, f26, f27, f28]
      | (with_reducible (first | apply cd_split | apply gd_split)) <;> (intro hc; (try simp only [hcn] at hc); (try simp only [hc]); (try simp only [hcl] at hc); try omega))
    refine AP.buf bf9 (new_ss u9 entC_len (by omega)) hfg9 (by omega) hfm2 (allOne_entM _) (by rw [hfm, hfm2]; omega) fun u' g10 b10 t10 ho tp => ?_
    have s10 : Stay nowhere h7 g10 := st9.past' t10 fun q hq => own q hq
    repeat' (first
      | refine St.h ?_
      | simp (disch := first | omega | (simp only [lnv]; omega)) only [wlk, ↓get_put', ↓reduceIte, seval, f2, f7, f8, f26, f27, f28]
      | (with_reducible (first | apply cd_split | apply gd_split)) <;> (intro hc; (try simp only [hcn] at hc); (try simp only [hc]); (try simp only [hcl] at hc); try omega))
    refine lp_next hI (R.length - (r + 1)) (by omega) ⟨r + 1, u', rfl, by omega, by simp (disch := first | omega | (simp only [lnv]; omega)) only [wlk, ↓get_put', ↓reduceIte, seval, f2], by simp (disch := first | omega | (simp only [lnv]; omega)) only [wlk, ↓get_put', ↓reduceIte, seval, f7], by simp (disch := first | omega | (simp only [lnv]; omega)) only [wlk, ↓get_put', ↓reduceIte, seval], by simp (disch := first | omega | (simp only [lnv]; omega)) only [wlk, ↓get_put', ↓reduceIte, seval, f26], by simp (disch := first | omega | (simp only [lnv]; omega)) only [wlk, ↓get_put', ↓reduceIte, seval, f27], by simp (disch := first | omega | (simp only [lnv]; omega)) only [wlk, ↓get_put', ↓reduceIte, seval, f28]; rfl, s10, by rw [hsu, List.flatMap_append]; exact b10, fun p hp => ?_⟩
    rcases ho p hp with h1 | h1
    · exact own p h1
    · have := st9.next; omega
  | true =>
    have hkp : keepG S true gr = stripE (gr.filter (wantP gr S)) := rfl
    rw [hkp] at hsu hb2
    have hfm2 := fm_len entC_len (stripE (gr.filter (wantP gr S)))
    repeat' (first
      | refine St.h ?_
      | simp (disch := first | omega | (simp only [lnv]; omega)) only [wlk, ↓get_put', ↓reduceIte, seval, f2, f7, f8, f26, f27, f28]
      | (with_reducible (first | apply cd_split | apply gd_split)) <;> (intro hc; (try simp only [hcn] at hc); (try simp only [hc]); (try simp only [hcl] at hc); try omega))
    refine CL.mk (strip_ok u9 w9 (by omega) hfg9) ?_
    rintro y10 g10' ⟨u10, w10, rfl⟩
    repeat' (first
      | refine St.h ?_
      | simp (disch := first | omega | (simp only [lnv]; omega)) only [wlk, ↓get_put', ↓reduceIte, seval, f2, f7, f8, f26, f27, f28]
      | (with_reducible (first | apply cd_split | apply gd_split)) <;> (intro hc; (try simp only [hcn] at hc); (try simp only [hc]); (try simp only [hcl] at hc); try omega))
    refine AP.buf bf9 (new_ss u10 entC_len (by omega)) hfg9 (by omega) hfm2 (allOne_entM _) (by rw [hfm, hfm2]; omega) fun u' g10 b10 t10 ho tp => ?_
    have s10 : Stay nowhere h7 g10 := st9.past' t10 fun q hq => own q hq
    repeat' (first
      | refine St.h ?_
      | simp (disch := first | omega | (simp only [lnv]; omega)) only [wlk, ↓get_put', ↓reduceIte, seval, f2, f7, f8, f26, f27, f28]
      | (with_reducible (first | apply cd_split | apply gd_split)) <;> (intro hc; (try simp only [hcn] at hc); (try simp only [hc]); (try simp only [hcl] at hc); try omega))
    refine lp_next hI (R.length - (r + 1)) (by omega) ⟨r + 1, u', rfl, by omega, by simp (disch := first | omega | (simp only [lnv]; omega)) only [wlk, ↓get_put', ↓reduceIte, seval, f2], by simp (disch := first | omega | (simp only [lnv]; omega)) only [wlk, ↓get_put', ↓reduceIte, seval, f7], by simp (disch := first | omega | (simp only [lnv]; omega)) only [wlk, ↓get_put', ↓reduceIte, seval], by simp (disch := first | omega | (simp only [lnv]; omega)) only [wlk, ↓get_put', ↓reduceIte, seval, f26], by simp (disch := first | omega | (simp only [lnv]; omega)) only [wlk, ↓get_put', ↓reduceIte, seval, f27], by simp (disch := first | omega | (simp only [lnv]; omega)) only [wlk, ↓get_put', ↓reduceIte, seval, f28]; rfl, s10, by rw [hsu, List.flatMap_append]; exact b10, fun p hp => ?_⟩
    rcases ho p hp with h1 | h1
    · exact own p h1
    · have := st9.next; omega
theorem known11 {h : H} : FnOk Try.prog 8 [] h fun y h' => y = .b true ∧ h' = h := FnOk.of_pure ravelinlaw11.known_pure h
end Go.Proofs.Ytnjgoggnhdpnoaa

set_option maxRecDepth 100000
set_option maxHeartbeats 8000000
set_option linter.all false
namespace Go.Proofs.Ytnjgoggnhdpnoaa
open Go Go.Ev
theorem few_len {L : List Ent} (h : fewE L = true) : L.length ≤ 60 ∧ ∀ e ∈ L, e.key.length ≤ 20 ∧ e.val.length ≤ 40 := by
  unfold fewE at h
  rw [Bool.and_eq_true] at h
  refine ⟨of_decide_eq_true h.2, fun e he => ?_⟩
  have := (List.all_eq_true.1 h.1) e he
  unfold okE at this
  rw [Bool.and_eq_true] at this
  exact ⟨of_decide_eq_true this.1, of_decide_eq_true this.2⟩
end Go.Proofs.Ytnjgoggnhdpnoaa

set_option maxRecDepth 1000000
set_option linter.all false
namespace Go.Proofs.Ytnjgoggnhdpnoaa
open Go Go.Ev
noncomputable abbrev s8_0 : CC := (CC.seq (CC.draws [(uB 46 (doMove (tm 4))), (uB 47 (bin2 fEql (tm 46) (oN 0))), (uB 48 (doMove (tm 47))), (uG 48 true 49 (doMove (tm 3))), (uG 48 true 50 (doLen (tm 49))), (uG 48 true 51 (bin2 fEql (tm 50) (oN 4))), (uB 52 (doPick (tm 48) (tm 51) (O.c (V.b Bool.false)))), (uB 53 (doMove (tm 52))), (uG 53 true 54 (doMove (tm 3))), (uG 53 true 55 (doIndexAddr 4 (tm 54) (oN 1))), (uG 53 true 56 (doLoadA 4 (tm 55))), (uG 53 true 57 (doMove (tm 2))), (uG 53 true 58 (doIndexAddr 4 (tm 57) (oN 0))), (uG 53 true 59 (doLoadA 4 (tm 58))), (uG 53 true 60 (doSEq [KD.s, KD.i, KD.b, KD.s] Bool.false (tm 56) (tm 59))), (uB 61 (doPick (tm 53) (tm 60) (O.c (V.b Bool.false)))), (uB 62 (doMove (tm 61))), (uG 62 true 63 (doMove (tm 6))), (uG 62 true 64 (bin2 fEql (tm 63) (oN 16))), (uB 65 (doPick (tm 62) (tm 64) (O.c (V.b Bool.false)))), (uB 66 (doMove (tm 65))), (uG 66 true 67 (doMove (tm 7))), (uG 66 true 68 (doLen (tm 67))), (uG 66 true 69 (bin2 fEql (tm 68) (oN 0))), (uB 70 (doPick (tm 66) (tm 69) (O.c (V.b Bool.false)))), (uB 71 (doMove (tm 70))), (uG 71 true 72 (doMove (tm 8))), (uG 71 true 73 (doLen (tm 72))), (uG 71 true 74 (bin2 fEql (tm 73) (oN 1))), (uB 75 (doPick (tm 71) (tm 74) (O.c (V.b Bool.false)))), (uB 76 (doMove (tm 75))), (uG 76 true 77 (doMove (tm 9))), (uG 76 true 78 (doLen (tm 77))), (uG 76 true 79 (bin2 fEql (tm 78) (oN 3))), (uB 80 (doPick (tm 76) (tm 79) (O.c (V.b Bool.false)))), (uB 81 (doMove (tm 80))), (uG 81 true 82 (doMove (tm 10))), (uG 81 true 83 (doLen (tm 82))), (uG 81 true 84 (bin2 fEql (tm 83) (oN 1))), (uB 85 (doPick (tm 81) (tm 84) (O.c (V.b Bool.false)))), (uB 0 (doMove (tm 85)))]) CC.ret)
noncomputable abbrev s8_1 : CC := (CC.seq (CC.region [(wB 43 (doMove (tm 3))), (wB 44 (doBuildSlice 3 1 [(V.i IntKind.i64 (Int.ofNat 0))] [(Pt.mk 0 1 (oN 2))])), (wB 45 (doCall 16 [(tm 43), (tm 44), (O.c (V.b Bool.true))])), (wB 10 (doMove (tm 45)))]) s8_0)
noncomputable abbrev s8_2 : CC := (CC.seq (CC.region [(wB 40 (doMove (tm 3))), (wB 41 (doBuildSlice 3 1 [(V.i IntKind.i64 (Int.ofNat 0))] [(Pt.mk 0 1 (oN 2))])), (wB 42 (doCall 16 [(tm 40), (tm 41), (O.c (V.b Bool.false))])), (wB 9 (doMove (tm 42)))]) s8_1)
noncomputable abbrev s8_3 : CC := (CC.seq (CC.region [(wB 38 (doMove (tm 3))), (wB 39 (doCall 14 [(tm 38), (oN 3)])), (wB 8 (doMove (tm 39)))]) s8_2)
noncomputable abbrev s8_4 : CC := (CC.seq (CC.region [(wB 36 (doMove (tm 3))), (wB 37 (doCall 14 [(tm 36), (oN 2)])), (wB 7 (doMove (tm 37)))]) s8_3)
noncomputable abbrev s8_5 : CC := (CC.seq (CC.draws [(uB 25 (doMove (tm 1))), (uB 26 (doIndexAddr 4 (tm 25) (oN 1))), (uB 27 (doLoadA 4 (tm 26))), (uB 28 (doMove (tm 1))), (uB 29 (doIndexAddr 4 (tm 28) (oN 0))), (uB 30 (doLoadA 4 (tm 29))), (wB 31 (doBuildSlice 39 2 [(V.s 0 0), (V.i IntKind.i64 (Int.ofNat 0)), (V.b Bool.false), (V.s 0 0), (V.s 0 0), (V.i IntKind.i64 (Int.ofNat 0)), (V.b Bool.false), (V.s 0 0)] [(Pt.mk 0 4 (tm 27)), (Pt.mk 4 4 (tm 30))])), (wB 32 (doBuildSlice 23 1 [V.l0] [(Pt.mk 0 1 (tm 31))])), (wB 33 (doCall 11 [(tm 32)])), (uB 24 (doMove (tm 33))), (uB 34 (doExtract 0 (tm 24))), (uB 35 (doExtract 1 (tm 24))), (uB 5 (doMove (tm 34))), (uB 6 (doMove (tm 35)))]) s8_4)
noncomputable abbrev s8_6 : CC := (CC.seq (CC.region [(wB 18 (doMove (tm 1))), (wB 19 (doMove (tm 2))), (wB 20 (doBuildSlice 23 2 [V.l0, V.l0] [(Pt.mk 0 1 (tm 18)), (Pt.mk 1 1 (tm 19))])), (wB 21 (doCall 11 [(tm 20)])), (wB 17 (doMove (tm 21))), (wB 22 (doExtract 0 (tm 17))), (wB 23 (doExtract 1 (tm 17))), (wB 3 (doMove (tm 22))), (wB 4 (doMove (tm 23)))]) s8_5)
noncomputable abbrev s8_7 : CC := (CC.seq (CC.region [(wB 14 (doBuild [(V.s 0 0), (V.i IntKind.i64 (Int.ofNat 0)), (V.b Bool.false), (V.s 0 0)] [(Pt.mk 0 1 (O.c (V.s 1 97))), (Pt.mk 1 1 (oN 2)), (Pt.mk 2 1 (O.c (V.b Bool.true)))])), (wB 15 (doBuild [(V.s 0 0), (V.i IntKind.i64 (Int.ofNat 0)), (V.b Bool.false), (V.s 0 0)] [(Pt.mk 0 1 (O.c (V.s 1 98))), (Pt.mk 1 1 (oN 1)), (Pt.mk 2 1 (O.c (V.b Bool.true)))])), (wB 16 (doBuildSlice 39 2 [(V.s 0 0), (V.i IntKind.i64 (Int.ofNat 0)), (V.b Bool.false), (V.s 0 0), (V.s 0 0), (V.i IntKind.i64 (Int.ofNat 0)), (V.b Bool.false), (V.s 0 0)] [(Pt.mk 0 4 (tm 14)), (Pt.mk 4 4 (tm 15))])), (wB 2 (doMove (tm 16)))]) s8_6)
noncomputable abbrev s8_8 : CC := (CC.seq (CC.region [(wB 11 (doBuild [(V.s 0 0), (V.i IntKind.i64 (Int.ofNat 0)), (V.b Bool.false), (V.s 0 0)] [(Pt.mk 0 1 (O.c (V.s 1 97))), (Pt.mk 1 1 (oN 3)), (Pt.mk 3 1 (O.c (V.s 1 122)))])), (wB 12 (doBuild [(V.s 0 0), (V.i IntKind.i64 (Int.ofNat 0)), (V.b Bool.false), (V.s 0 0)] [(Pt.mk 0 1 (O.c (V.s 1 97))), (Pt.mk 1 1 (oN 1)), (Pt.mk 3 1 (O.c (V.s 1 120)))])), (wB 13 (doBuildSlice 39 2 [(V.s 0 0), (V.i IntKind.i64 (Int.ofNat 0)), (V.b Bool.false), (V.s 0 0), (V.s 0 0), (V.i IntKind.i64 (Int.ofNat 0)), (V.b Bool.false), (V.s 0 0)] [(Pt.mk 0 4 (tm 11)), (Pt.mk 4 4 (tm 12))])), (wB 1 (doMove (tm 13)))]) s8_7)
noncomputable abbrev b8 : CC := (CC.seq (CC.region [(wB 0 (doMove (O.c (V.b Bool.false))))]) s8_8)
theorem c8 : compFn Try.prog 8 = ⟨86, b8, [(Rs.tmp (slOf 0))]⟩ := by kernel_rfl
noncomputable abbrev s3_0 : CC := (CC.seq (CC.region [(wB 10 (doMove (O.c (V.b Bool.false))))]) CC.ret)
noncomputable abbrev s3_1 : CC := (CC.cond (tm 16) s3_0 CC.skip)
noncomputable abbrev s3_2 : CC := (CC.seq (CC.region [(wB 15 (doCall 8 [])), (wB 16 (doNot (tm 15)))]) s3_1)
noncomputable abbrev s3_3 : CC := (CC.seq (CC.region [(wB 10 (doMove (O.c (V.b Bool.true))))]) CC.ret)
noncomputable abbrev s3_4 : CC := (CC.cond (tm 29) s3_3 CC.skip)
noncomputable abbrev s3_5 : CC := (CC.seq (CC.region [(wB 17 (doMove (tm 0))), (wB 18 (doCall 9 [(tm 17)])), (wB 19 (doNot (tm 18))), (wB 20 (doMove (tm 19))), (wG 20 false 21 (doMove (tm 1))), (wG 20 false 22 (doCall 10 [(tm 21)])), (wG 20 false 23 (doNot (tm 22))), (wB 24 (doPick (tm 20) (O.c (V.b Bool.true)) (tm 23))), (wB 25 (doMove (tm 24))), (wG 25 false 26 (doMove (tm 3))), (wG 25 false 27 (doLen (tm 26))), (wG 25 false 28 (bin2 fGtr (tm 27) (oN 10))), (wB 29 (doPick (tm 25) (O.c (V.b Bool.true)) (tm 28)))]) s3_4)
noncomputable abbrev s3_6 : CC := (CC.seq (CC.region [(wB 40 (doMove (tm 11))), (wB 41 (doMove (tm 13))), (wB 42 (doCall 13 [(tm 40), (tm 41)])), (wB 43 (doMove (tm 42))), (wG 43 true 44 (doMove (tm 12))), (wG 43 true 45 (bin2 fEql (tm 44) (oN 0))), (wG 43 true 46 (doMove (tm 14))), (wG 43 true 47 (doBool Bool.false (tm 45) (tm 46))), (wB 48 (doPick (tm 43) (tm 47) (O.c (V.b Bool.false)))), (wB 49 (doMove (tm 48))), (wG 49 true 50 (doMove (tm 12))), (wG 49 true 51 (bin2 fEql (tm 50) (oN 0))), (wG 49 true 52 (doMove (tm 51))), (wG 52 false 53 (doMove (tm 12))), (wG 52 false 54 (bin2 fEql (tm 53) (oN 16))), (wG 49 true 55 (doPick (tm 52) (O.c (V.b Bool.true)) (tm 54))), (wB 56 (doPick (tm 49) (tm 55) (O.c (V.b Bool.false)))), (wB 57 (doMove (tm 56))), (wG 57 true 58 (doMove (tm 1))), (wG 57 true 59 (doMove (tm 2))), (wG 57 true 60 (doCall 14 [(tm 58), (tm 59)])), (wG 57 true 61 (doMove (tm 1))), (wG 57 true 62 (doMove (tm 2))), (wG 57 true 63 (doCall 15 [(tm 61), (tm 62)])), (wG 57 true 64 (doCall 13 [(tm 60), (tm 63)])), (wB 65 (doPick (tm 57) (tm 64) (O.c (V.b Bool.false)))), (wB 66 (doMove (tm 65))), (wG 66 true 67 (doMove (tm 1))), (wG 66 true 68 (doMove (tm 3))), (wG 66 true 69 (doMove (tm 4))), (wG 66 true 70 (doCall 16 [(tm 67), (tm 68), (tm 69)])), (wG 66 true 71 (doMove (tm 1))), (wG 66 true 72 (doMove (tm 3))), (wG 66 true 73 (doMove (tm 4))), (wG 66 true 74 (doCall 17 [(tm 71), (tm 72), (tm 73)])), (wG 66 true 75 (doCall 13 [(tm 70), (tm 74)])), (wB 76 (doPick (tm 66) (tm 75) (O.c (V.b Bool.false)))), (wB 10 (doMove (tm 76)))]) CC.ret)
noncomputable abbrev s3_7 : CC := (CC.seq (CC.region [(wB 36 (doMove (tm 0))), (wB 37 (doCall 12 [(tm 36)])), (wB 35 (doMove (tm 37))), (wB 38 (doExtract 0 (tm 35))), (wB 39 (doExtract 1 (tm 35))), (wB 13 (doMove (tm 38))), (wB 14 (doMove (tm 39)))]) s3_6)
noncomputable abbrev s3_8 : CC := (CC.seq (CC.region [(wB 31 (doMove (tm 0))), (wB 32 (doCall 11 [(tm 31)])), (wB 30 (doMove (tm 32))), (wB 33 (doExtract 0 (tm 30))), (wB 34 (doExtract 1 (tm 30))), (wB 11 (doMove (tm 33))), (wB 12 (doMove (tm 34)))]) s3_7)
noncomputable abbrev s3_9 : CC := (CC.seq s3_5 s3_8)
noncomputable abbrev s3_10 : CC := (CC.seq s3_2 s3_9)
noncomputable abbrev b3 : CC := (CC.seq (CC.region [(wB 10 (doMove (O.c (V.b Bool.false))))]) s3_10)
theorem c3 : compFn Try.prog 3 = ⟨77, b3, [(Rs.tmp (slOf 10))]⟩ := by kernel_rfl
noncomputable abbrev s4_0 : CC := (CC.seq (CC.region [(wB 6 (doMove (O.c (V.b Bool.false))))]) CC.ret)
noncomputable abbrev s4_1 : CC := (CC.cond (tm 14) s4_0 CC.skip)
noncomputable abbrev s4_2 : CC := (CC.seq (CC.region [(wB 13 (doCall 8 [])), (wB 14 (doNot (tm 13)))]) s4_1)
noncomputable abbrev s4_3 : CC := (CC.seq (CC.region [(wB 6 (doMove (O.c (V.b Bool.true))))]) CC.ret)
noncomputable abbrev s4_4 : CC := (CC.cond (tm 27) s4_3 CC.skip)
noncomputable abbrev s4_5 : CC := (CC.seq (CC.region [(wB 15 (doMove (tm 0))), (wB 16 (doCall 10 [(tm 15)])), (wB 17 (doNot (tm 16))), (wB 18 (doMove (tm 17))), (wG 18 false 19 (doMove (tm 1))), (wG 18 false 20 (doLen (tm 19))), (wG 18 false 21 (bin2 fGtr (tm 20) (oN 10))), (wB 22 (doPick (tm 18) (O.c (V.b Bool.true)) (tm 21))), (wB 23 (doMove (tm 22))), (wG 23 false 24 (doMove (tm 0))), (wG 23 false 25 (doCall 18 [(tm 24)])), (wG 23 false 26 (doNot (tm 25))), (wB 27 (doPick (tm 23) (O.c (V.b Bool.true)) (tm 26)))]) s4_4)
noncomputable abbrev s4_6 : CC := (CC.cond (tm 31) CC.skip (CC.exit 0))
noncomputable abbrev s4_7 : CC := (CC.seq (CC.region [(wB 28 (doMove (tm 7))), (wB 29 (doMove (tm 0))), (wB 30 (doLen (tm 29))), (wB 31 (bin2 fLss (tm 28) (tm 30)))]) s4_6)
noncomputable abbrev s4_8 : CC := (CC.seq (CC.region [(wB 6 (doMove (O.c (V.b Bool.true))))]) CC.ret)
noncomputable abbrev s4_9 : CC := (CC.cond (tm 39) s4_8 CC.skip)
noncomputable abbrev s4_10 : CC := (CC.seq (CC.region [(wB 34 (doMove (tm 0))), (wB 35 (doMove (tm 7))), (wB 36 (doIndexAddr 4 (tm 34) (tm 35))), (wB 37 (doLoadA 4 (tm 36))), (wB 38 (doCall 19 [(tm 37)])), (wB 39 (doNot (tm 38)))]) s4_9)
noncomputable abbrev s4_11 : CC := (CC.block 1 s4_10)
noncomputable abbrev s4_12 : CC := (CC.region [(wB 32 (doMove (tm 7))), (wB 33 (bin2 fAdd (tm 32) (oN 1))), (wB 7 (doMove (tm 33)))])
noncomputable abbrev s4_13 : CC := (CC.seq s4_11 s4_12)
noncomputable abbrev l4_0 : CC := (CC.seq s4_7 s4_13)
noncomputable abbrev s4_14 : CC := (CC.loop l4_0)
noncomputable abbrev s4_15 : CC := (CC.block 0 s4_14)
noncomputable abbrev s4_16 : CC := (CC.seq (CC.region [(wB 7 (doMove (oN 0)))]) s4_15)
noncomputable abbrev s4_17 : CC := (CC.seq (CC.region [(wB 6 (doMove (O.c (V.b Bool.false))))]) CC.ret)
noncomputable abbrev s4_18 : CC := (CC.cond (tm 61) s4_17 CC.skip)
noncomputable abbrev s4_19 : CC := (CC.seq (CC.region [(wB 44 (doMove (tm 8))), (wB 45 (doCall 18 [(tm 44)])), (wB 46 (doNot (tm 45))), (wB 47 (doMove (tm 46))), (wG 47 false 48 (doMove (tm 8))), (wG 47 false 49 (doLen (tm 48))), (wG 47 false 50 (doMove (tm 0))), (wG 47 false 51 (doLen (tm 50))), (wG 47 false 52 (bin2 fGtr (tm 49) (tm 51))), (wB 53 (doPick (tm 47) (O.c (V.b Bool.true)) (tm 52))), (wB 54 (doMove (tm 53))), (wG 54 false 55 (doMove (tm 8))), (wG 54 false 56 (doCall 14 [(tm 55), (oN 1000000)])), (wG 54 false 57 (doMove (tm 0))), (wG 54 false 58 (doCall 14 [(tm 57), (oN 1000000)])), (wG 54 false 59 (doCall 13 [(tm 56), (tm 58)])), (wG 54 false 60 (doNot (tm 59))), (wB 61 (doPick (tm 54) (O.c (V.b Bool.true)) (tm 60)))]) s4_18)
noncomputable abbrev s4_20 : CC := (CC.cond (tm 65) CC.skip (CC.exit 2))
noncomputable abbrev s4_21 : CC := (CC.seq (CC.region [(wB 62 (doMove (tm 9))), (wB 63 (doMove (tm 1))), (wB 64 (doLen (tm 63))), (wB 65 (bin2 fLss (tm 62) (tm 64)))]) s4_20)
noncomputable abbrev s4_22 : CC := (CC.seq (CC.region [(wB 6 (doMove (O.c (V.b Bool.false))))]) CC.ret)
noncomputable abbrev s4_23 : CC := (CC.cond (tm 81) s4_22 CC.skip)
noncomputable abbrev s4_24 : CC := (CC.seq (CC.draws [(uB 68 (doMove (tm 8))), (uB 69 (doMove (tm 1))), (uB 70 (doMove (tm 9))), (uB 71 (doIndexAddr 1 (tm 69) (tm 70))), (uB 72 (doLoad (tm 71))), (uB 73 (doCall 14 [(tm 68), (tm 72)])), (uB 74 (doMove (tm 0))), (uB 75 (doMove (tm 1))), (uB 76 (doMove (tm 9))), (uB 77 (doIndexAddr 1 (tm 75) (tm 76))), (uB 78 (doLoad (tm 77))), (wB 79 (doCall 14 [(tm 74), (tm 78)])), (wB 80 (doCall 13 [(tm 73), (tm 79)])), (uB 81 (doNot (tm 80)))]) s4_23)
noncomputable abbrev s4_25 : CC := (CC.block 3 s4_24)
noncomputable abbrev s4_26 : CC := (CC.region [(wB 66 (doMove (tm 9))), (wB 67 (bin2 fAdd (tm 66) (oN 1))), (wB 9 (doMove (tm 67)))])
noncomputable abbrev s4_27 : CC := (CC.seq s4_25 s4_26)
noncomputable abbrev l4_1 : CC := (CC.seq s4_21 s4_27)
noncomputable abbrev s4_28 : CC := (CC.loop l4_1)
noncomputable abbrev s4_29 : CC := (CC.block 2 s4_28)
noncomputable abbrev s4_30 : CC := (CC.seq (CC.region [(wB 9 (doMove (oN 0)))]) s4_29)
noncomputable abbrev s4_31 : CC := (CC.cond (tm 85) CC.skip (CC.exit 4))
noncomputable abbrev s4_32 : CC := (CC.seq (CC.region [(wB 82 (doMove (tm 10))), (wB 83 (doMove (tm 8))), (wB 84 (doLen (tm 83))), (wB 85 (bin2 fLss (tm 82) (tm 84)))]) s4_31)
noncomputable abbrev s4_33 : CC := (CC.seq (CC.region [(wB 6 (doMove (O.c (V.b Bool.false))))]) CC.ret)
noncomputable abbrev s4_34 : CC := (CC.cond (tm 112) s4_33 CC.skip)
noncomputable abbrev s4_35 : CC := (CC.seq (CC.draws [(uB 103 (doMove (tm 12))), (uB 104 (doNot (tm 103))), (uB 105 (doMove (tm 104))), (uG 105 false 106 (doLoadA 4 (tm 11))), (uG 105 false 107 (doMove (tm 8))), (uG 105 false 108 (doMove (tm 10))), (uG 105 false 109 (doIndexAddr 4 (tm 107) (tm 108))), (uG 105 false 110 (doLoadA 4 (tm 109))), (uG 105 false 111 (doSEq [KD.s, KD.i, KD.b, KD.s] Bool.true (tm 106) (tm 110))), (uB 112 (doPick (tm 105) (O.c (V.b Bool.true)) (tm 111)))]) s4_34)
noncomputable abbrev s4_36 : CC := (CC.seq (CC.draws [(uB 89 (doMove (tm 0))), (uB 90 (doMove (tm 8))), (uB 91 (doMove (tm 10))), (uB 92 (doIndexAddr 4 (tm 90) (tm 91))), (uB 93 (doFieldAddr 0 (tm 92))), (uB 94 (doLoad (tm 93))), (uB 95 (doMove (tm 8))), (uB 96 (doMove (tm 10))), (uB 97 (doIndexAddr 4 (tm 95) (tm 96))), (uB 98 (doFieldAddr 1 (tm 97))), (uB 99 (doLoad (tm 98))), (uB 100 (doCall 20 [(tm 89), (tm 94), (tm 99)])), (uB 88 (doMove (tm 100))), (uB 101 (doExtract 0 (tm 88))), (uB 102 (doExtract 1 (tm 88))), (uB 11 (doAlloc 39 [(V.s 0 0), (V.i IntKind.i64 (Int.ofNat 0)), (V.b Bool.false), (V.s 0 0)])), (CO.mk G.none D.none Bool.true (CR.mk (doStore 4 (tm 11) (tm 101)))), (uB 12 (doMove (tm 102)))]) s4_35)
noncomputable abbrev s4_37 : CC := (CC.block 5 s4_36)
noncomputable abbrev s4_38 : CC := (CC.region [(wB 86 (doMove (tm 10))), (wB 87 (bin2 fAdd (tm 86) (oN 1))), (wB 10 (doMove (tm 87)))])
noncomputable abbrev s4_39 : CC := (CC.seq s4_37 s4_38)
noncomputable abbrev l4_2 : CC := (CC.seq s4_32 s4_39)
noncomputable abbrev s4_40 : CC := (CC.loop l4_2)
noncomputable abbrev s4_41 : CC := (CC.block 4 s4_40)
noncomputable abbrev s4_42 : CC := (CC.seq (CC.region [(wB 10 (doMove (oN 0)))]) s4_41)
noncomputable abbrev s4_43 : CC := (CC.seq (CC.region [(wB 6 (doMove (O.c (V.b Bool.true))))]) CC.ret)
noncomputable abbrev s4_44 : CC := (CC.seq s4_42 s4_43)
noncomputable abbrev s4_45 : CC := (CC.seq s4_30 s4_44)
noncomputable abbrev s4_46 : CC := (CC.seq s4_19 s4_45)
noncomputable abbrev s4_47 : CC := (CC.seq (CC.region [(wB 40 (doMove (tm 0))), (wB 41 (doMove (tm 1))), (wB 42 (doMove (tm 2))), (wB 43 (doCall 16 [(tm 40), (tm 41), (tm 42)])), (wB 8 (doMove (tm 43)))]) s4_46)
noncomputable abbrev s4_48 : CC := (CC.seq s4_16 s4_47)
noncomputable abbrev s4_49 : CC := (CC.seq s4_5 s4_48)
noncomputable abbrev s4_50 : CC := (CC.seq s4_2 s4_49)
noncomputable abbrev b4 : CC := (CC.seq (CC.region [(wB 6 (doMove (O.c (V.b Bool.false))))]) s4_50)
theorem c4 : compFn Try.prog 4 = ⟨113, b4, [(Rs.tmp (slOf 6))]⟩ := by kernel_rfl
noncomputable abbrev s5_0 : CC := (CC.seq (CC.region [(wB 4 (doMove (O.c (V.b Bool.false))))]) CC.ret)
noncomputable abbrev s5_1 : CC := (CC.cond (tm 13) s5_0 CC.skip)
noncomputable abbrev s5_2 : CC := (CC.seq (CC.region [(wB 12 (doCall 8 [])), (wB 13 (doNot (tm 12)))]) s5_1)
noncomputable abbrev s5_3 : CC := (CC.seq (CC.region [(wB 4 (doMove (O.c (V.b Bool.true))))]) CC.ret)
noncomputable abbrev s5_4 : CC := (CC.cond (tm 26) s5_3 CC.skip)
noncomputable abbrev s5_5 : CC := (CC.seq (CC.region [(wB 14 (doMove (tm 0))), (wB 15 (doCall 10 [(tm 14)])), (wB 16 (doNot (tm 15))), (wB 17 (doMove (tm 16))), (wG 17 false 18 (doMove (tm 1))), (wG 17 false 19 (doLen (tm 18))), (wG 17 false 20 (bin2 fGtr (tm 19) (oN 60))), (wB 21 (doPick (tm 17) (O.c (V.b Bool.true)) (tm 20))), (wB 22 (doMove (tm 21))), (wG 22 false 23 (doMove (tm 0))), (wG 22 false 24 (doCall 18 [(tm 23)])), (wG 22 false 25 (doNot (tm 24))), (wB 26 (doPick (tm 22) (O.c (V.b Bool.true)) (tm 25)))]) s5_4)
noncomputable abbrev s5_6 : CC := (CC.cond (tm 30) CC.skip (CC.exit 0))
noncomputable abbrev s5_7 : CC := (CC.seq (CC.region [(wB 27 (doMove (tm 7))), (wB 28 (doMove (tm 0))), (wB 29 (doLen (tm 28))), (wB 30 (bin2 fLss (tm 27) (tm 29)))]) s5_6)
noncomputable abbrev s5_8 : CC := (CC.region [(wB 43 (doMove (tm 5))), (wB 44 (doMove (tm 0))), (wB 45 (doMove (tm 7))), (wB 46 (doIndexAddr 4 (tm 44) (tm 45))), (wB 47 (doLoadA 4 (tm 46))), (wB 48 (doBuildSlice 39 1 [(V.s 0 0), (V.i IntKind.i64 (Int.ofNat 0)), (V.b Bool.false), (V.s 0 0)] [(Pt.mk 0 4 (tm 47))])), (wB 49 (doAppend 39 4 (tm 43) (tm 48))), (wB 5 (doMove (tm 49)))])
noncomputable abbrev s5_9 : CC := (CC.region [(wB 50 (doMove (tm 6))), (wB 51 (doMove (tm 0))), (wB 52 (doMove (tm 7))), (wB 53 (doIndexAddr 4 (tm 51) (tm 52))), (wB 54 (doLoadA 4 (tm 53))), (wB 55 (doBuildSlice 39 1 [(V.s 0 0), (V.i IntKind.i64 (Int.ofNat 0)), (V.b Bool.false), (V.s 0 0)] [(Pt.mk 0 4 (tm 54))])), (wB 56 (doAppend 39 4 (tm 50) (tm 55))), (wB 6 (doMove (tm 56)))])
noncomputable abbrev s5_10 : CC := (CC.cond (tm 42) s5_8 s5_9)
noncomputable abbrev s5_11 : CC := (CC.seq (CC.region [(wB 33 (doMove (tm 7))), (wB 34 (doMove (tm 1))), (wB 35 (doLen (tm 34))), (wB 36 (bin2 fLss (tm 33) (tm 35))), (wB 37 (doMove (tm 36))), (wG 37 true 38 (doMove (tm 1))), (wG 37 true 39 (doMove (tm 7))), (wG 37 true 40 (doIndexAddr 1 (tm 38) (tm 39))), (wG 37 true 41 (doLoad (tm 40))), (wB 42 (doPick (tm 37) (tm 41) (O.c (V.b Bool.false))))]) s5_10)
noncomputable abbrev s5_12 : CC := (CC.block 1 s5_11)
noncomputable abbrev s5_13 : CC := (CC.region [(wB 31 (doMove (tm 7))), (wB 32 (bin2 fAdd (tm 31) (oN 1))), (wB 7 (doMove (tm 32)))])
noncomputable abbrev s5_14 : CC := (CC.seq s5_12 s5_13)
noncomputable abbrev l5_0 : CC := (CC.seq s5_7 s5_14)
noncomputable abbrev s5_15 : CC := (CC.loop l5_0)
noncomputable abbrev s5_16 : CC := (CC.block 0 s5_15)
noncomputable abbrev s5_17 : CC := (CC.seq (CC.region [(wB 7 (doMove (oN 0)))]) s5_16)
noncomputable abbrev s5_18 : CC := (CC.seq (CC.region [(wB 72 (doMove (tm 9))), (wB 73 (bin2 fEql (tm 72) (oN 0))), (wB 74 (doMove (tm 73))), (wG 74 true 75 (doMove (tm 11))), (wG 74 true 76 (bin2 fEql (tm 75) (oN 0))), (wB 77 (doPick (tm 74) (tm 76) (O.c (V.b Bool.false)))), (wB 78 (doMove (tm 77))), (wG 78 true 79 (doMove (tm 8))), (wG 78 true 80 (doMove (tm 0))), (wG 78 true 81 (doCall 13 [(tm 79), (tm 80)])), (wB 82 (doPick (tm 78) (tm 81) (O.c (V.b Bool.false)))), (wB 83 (doMove (tm 82))), (wG 83 true 84 (doMove (tm 10))), (wG 83 true 85 (doMove (tm 0))), (wG 83 true 86 (doCall 13 [(tm 84), (tm 85)])), (wB 87 (doPick (tm 83) (tm 86) (O.c (V.b Bool.false)))), (wB 4 (doMove (tm 87)))]) CC.ret)
noncomputable abbrev s5_19 : CC := (CC.seq (CC.region [(wB 65 (doMove (tm 0))), (wB 66 (doMove (tm 5))), (wB 67 (doMove (tm 0))), (wB 68 (doBuildSlice 23 3 [V.l0, V.l0, V.l0] [(Pt.mk 0 1 (tm 65)), (Pt.mk 1 1 (tm 66)), (Pt.mk 2 1 (tm 67))])), (wB 69 (doCall 11 [(tm 68)])), (wB 64 (doMove (tm 69))), (wB 70 (doExtract 0 (tm 64))), (wB 71 (doExtract 1 (tm 64))), (wB 10 (doMove (tm 70))), (wB 11 (doMove (tm 71)))]) s5_18)
noncomputable abbrev s5_20 : CC := (CC.seq (CC.region [(wB 58 (doMove (tm 5))), (wB 59 (doMove (tm 6))), (wB 60 (doBuildSlice 23 2 [V.l0, V.l0] [(Pt.mk 0 1 (tm 58)), (Pt.mk 1 1 (tm 59))])), (wB 61 (doCall 11 [(tm 60)])), (wB 57 (doMove (tm 61))), (wB 62 (doExtract 0 (tm 57))), (wB 63 (doExtract 1 (tm 57))), (wB 8 (doMove (tm 62))), (wB 9 (doMove (tm 63)))]) s5_19)
noncomputable abbrev s5_21 : CC := (CC.seq s5_17 s5_20)
noncomputable abbrev s5_22 : CC := (CC.seq (CC.region [(wB 5 (doMove (O.c V.l0))), (wB 6 (doMove (O.c V.l0)))]) s5_21)
noncomputable abbrev s5_23 : CC := (CC.seq s5_5 s5_22)
noncomputable abbrev s5_24 : CC := (CC.seq s5_2 s5_23)
noncomputable abbrev b5 : CC := (CC.seq (CC.region [(wB 4 (doMove (O.c (V.b Bool.false))))]) s5_24)
theorem c5 : compFn Try.prog 5 = ⟨88, b5, [(Rs.tmp (slOf 4))]⟩ := by kernel_rfl
noncomputable abbrev s6_0 : CC := (CC.seq (CC.region [(wB 8 (doMove (O.c (V.b Bool.false))))]) CC.ret)
noncomputable abbrev s6_1 : CC := (CC.cond (tm 21) s6_0 CC.skip)
noncomputable abbrev s6_2 : CC := (CC.seq (CC.region [(wB 20 (doCall 8 [])), (wB 21 (doNot (tm 20)))]) s6_1)
noncomputable abbrev s6_3 : CC := (CC.seq (CC.region [(wB 8 (doMove (O.c (V.b Bool.true))))]) CC.ret)
noncomputable abbrev s6_4 : CC := (CC.cond (tm 24) s6_3 CC.skip)
noncomputable abbrev s6_5 : CC := (CC.seq (CC.region [(wB 22 (doMove (tm 1))), (wB 23 (doLen (tm 22))), (wB 24 (bin2 fGtr (tm 23) (oN 10)))]) s6_4)
noncomputable abbrev s6_6 : CC := (CC.cond (tm 34) CC.skip (CC.exit 0))
noncomputable abbrev s6_7 : CC := (CC.seq (CC.region [(wB 33 (doMove (tm 13))), (wB 34 (bin2 fGeq (tm 33) (oN 1)))]) s6_6)
noncomputable abbrev s6_8 : CC := (CC.region [(wB 37 (doMove (tm 10))), (wB 38 (doMove (tm 13))), (wB 39 (doMove (tm 2))), (wB 40 (doMove (tm 13))), (wB 41 (doConv IntKind.u64 (tm 40))), (wB 42 (doShift shrF (tm 39) (tm 41))), (wB 43 (bin2 fAnd (tm 42) (O.c (V.i IntKind.u32 (Int.ofNat 1))))), (wB 44 (bin2 fEql (tm 43) (O.c (V.i IntKind.u32 (Int.ofNat 1))))), (wB 45 (doBuild [(V.s 0 0), (V.i IntKind.i64 (Int.ofNat 0)), (V.b Bool.false), (V.s 0 0)] [(Pt.mk 0 1 (O.c (V.s 1 107))), (Pt.mk 1 1 (tm 38)), (Pt.mk 2 1 (tm 44))])), (wB 46 (doBuildSlice 39 1 [(V.s 0 0), (V.i IntKind.i64 (Int.ofNat 0)), (V.b Bool.false), (V.s 0 0)] [(Pt.mk 0 4 (tm 45))])), (wB 47 (doAppend 39 4 (tm 37) (tm 46))), (wB 10 (doMove (tm 47)))])
noncomputable abbrev s6_9 : CC := (CC.block 1 s6_8)
noncomputable abbrev s6_10 : CC := (CC.region [(wB 35 (doMove (tm 13))), (wB 36 (bin2 fSub (tm 35) (oN 1))), (wB 13 (doMove (tm 36)))])
noncomputable abbrev s6_11 : CC := (CC.seq s6_9 s6_10)
noncomputable abbrev l6_0 : CC := (CC.seq s6_7 s6_11)
noncomputable abbrev s6_12 : CC := (CC.loop l6_0)
noncomputable abbrev s6_13 : CC := (CC.block 0 s6_12)
noncomputable abbrev s6_14 : CC := (CC.seq (CC.region [(wB 32 (doMove (tm 9))), (wB 13 (doMove (tm 32)))]) s6_13)
noncomputable abbrev s6_15 : CC := (CC.cond (tm 54) CC.skip (CC.exit 2))
noncomputable abbrev s6_16 : CC := (CC.seq (CC.region [(wB 51 (doMove (tm 14))), (wB 52 (doMove (tm 1))), (wB 53 (doLen (tm 52))), (wB 54 (bin2 fLss (tm 51) (tm 53)))]) s6_15)
noncomputable abbrev s6_17 : CC := (CC.region [(wB 67 (doMove (tm 11))), (wB 68 (doMove (tm 15))), (wB 69 (doMove (tm 9))), (wB 70 (doMin (tm 68) (tm 69))), (wB 71 (doIndexAddr 1 (tm 67) (tm 70))), (CO.mk G.none D.none Bool.true (CR.mk (doStore 1 (tm 71) (O.c (V.b Bool.true)))))])
noncomputable abbrev s6_18 : CC := (CC.seq (CC.region [(wB 63 (doMove (tm 12))), (wB 64 (doMove (tm 15))), (wB 65 (doBuildSlice 3 1 [(V.i IntKind.i64 (Int.ofNat 0))] [(Pt.mk 0 1 (tm 64))])), (wB 66 (doAppend 3 1 (tm 63) (tm 65))), (wB 12 (doMove (tm 66)))]) s6_17)
noncomputable abbrev s6_19 : CC := (CC.seq (CC.region [(wB 57 (doMove (tm 1))), (wB 58 (doMove (tm 14))), (wB 59 (doIndexAddr 1 (tm 57) (tm 58))), (wB 60 (doLoad (tm 59))), (wB 61 (doRem (tm 60) (O.c (V.i IntKind.u8 (Int.ofNat 25))))), (wB 62 (doConv IntKind.i64 (tm 61))), (wB 15 (doMove (tm 62)))]) s6_18)
noncomputable abbrev s6_20 : CC := (CC.block 3 s6_19)
noncomputable abbrev s6_21 : CC := (CC.region [(wB 55 (doMove (tm 14))), (wB 56 (bin2 fAdd (tm 55) (oN 1))), (wB 14 (doMove (tm 56)))])
noncomputable abbrev s6_22 : CC := (CC.seq s6_20 s6_21)
noncomputable abbrev l6_1 : CC := (CC.seq s6_16 s6_22)
noncomputable abbrev s6_23 : CC := (CC.loop l6_1)
noncomputable abbrev s6_24 : CC := (CC.block 2 s6_23)
noncomputable abbrev s6_25 : CC := (CC.seq (CC.region [(wB 14 (doMove (oN 0)))]) s6_24)
noncomputable abbrev s6_26 : CC := (CC.cond (tm 79) CC.skip (CC.exit 4))
noncomputable abbrev s6_27 : CC := (CC.seq (CC.region [(wB 74 (doMove (tm 16))), (wB 75 (doMove (tm 9))), (wB 76 (bin2 fLeq (tm 74) (tm 75))), (wB 77 (doMove (tm 76))), (wG 77 true 78 (doMove (tm 3))), (wB 79 (doPick (tm 77) (tm 78) (O.c (V.b Bool.false))))]) s6_26)
noncomputable abbrev s6_28 : CC := (CC.cond (tm 86) (CC.exit 5) CC.skip)
noncomputable abbrev s6_29 : CC := (CC.seq (CC.region [(wB 82 (doMove (tm 11))), (wB 83 (doMove (tm 16))), (wB 84 (doIndexAddr 1 (tm 82) (tm 83))), (wB 85 (doLoad (tm 84))), (wB 86 (doNot (tm 85)))]) s6_28)
noncomputable abbrev s6_30 : CC := (CC.cond (tm 92) (CC.exit 4) CC.skip)
noncomputable abbrev s6_31 : CC := (CC.seq (CC.region [(wB 87 (doMove (tm 2))), (wB 88 (doMove (tm 16))), (wB 89 (doConv IntKind.u64 (tm 88))), (wB 90 (doShift shrF (tm 87) (tm 89))), (wB 91 (bin2 fAnd (tm 90) (O.c (V.i IntKind.u32 (Int.ofNat 1))))), (wB 92 (bin2 fEql (tm 91) (O.c (V.i IntKind.u32 (Int.ofNat 0)))))]) s6_30)
noncomputable abbrev s6_32 : CC := (CC.region [(wB 93 (doMove (tm 11))), (wB 94 (doMove (tm 16))), (wB 95 (doIndexAddr 1 (tm 93) (tm 94))), (CO.mk G.none D.none Bool.true (CR.mk (doStore 1 (tm 95) (O.c (V.b Bool.false)))))])
noncomputable abbrev s6_33 : CC := (CC.seq s6_31 s6_32)
noncomputable abbrev s6_34 : CC := (CC.seq s6_29 s6_33)
noncomputable abbrev s6_35 : CC := (CC.block 5 s6_34)
noncomputable abbrev s6_36 : CC := (CC.region [(wB 80 (doMove (tm 16))), (wB 81 (bin2 fAdd (tm 80) (oN 1))), (wB 16 (doMove (tm 81)))])
noncomputable abbrev s6_37 : CC := (CC.seq s6_35 s6_36)
noncomputable abbrev l6_2 : CC := (CC.seq s6_27 s6_37)
noncomputable abbrev s6_38 : CC := (CC.loop l6_2)
noncomputable abbrev s6_39 : CC := (CC.block 4 s6_38)
noncomputable abbrev s6_40 : CC := (CC.seq (CC.region [(wB 16 (doMove (oN 1)))]) s6_39)
noncomputable abbrev s6_41 : CC := (CC.cond (tm 102) CC.skip (CC.exit 6))
noncomputable abbrev s6_42 : CC := (CC.seq (CC.region [(wB 101 (doMove (tm 19))), (wB 102 (bin2 fGeq (tm 101) (oN 1)))]) s6_41)
noncomputable abbrev s6_43 : CC := (CC.cond (tm 109) (CC.exit 7) CC.skip)
noncomputable abbrev s6_44 : CC := (CC.seq (CC.region [(wB 105 (doMove (tm 11))), (wB 106 (doMove (tm 19))), (wB 107 (doIndexAddr 1 (tm 105) (tm 106))), (wB 108 (doLoad (tm 107))), (wB 109 (doNot (tm 108)))]) s6_43)
noncomputable abbrev s6_45 : CC := (CC.seq (CC.region [(wB 8 (doMove (O.c (V.b Bool.false))))]) CC.ret)
noncomputable abbrev s6_46 : CC := (CC.cond (tm 122) s6_45 CC.skip)
noncomputable abbrev s6_47 : CC := (CC.seq (CC.region [(wB 110 (doMove (tm 18))), (wB 111 (doMove (tm 17))), (wB 112 (doLen (tm 111))), (wB 113 (bin2 fGeq (tm 110) (tm 112))), (wB 114 (doMove (tm 113))), (wG 114 false 115 (doMove (tm 17))), (wG 114 false 116 (doMove (tm 18))), (wG 114 false 117 (doIndexAddr 4 (tm 115) (tm 116))), (wG 114 false 118 (doFieldAddr 1 (tm 117))), (wG 114 false 119 (doLoad (tm 118))), (wG 114 false 120 (doMove (tm 19))), (wG 114 false 121 (bin2 fNeq (tm 119) (tm 120))), (wB 122 (doPick (tm 114) (O.c (V.b Bool.true)) (tm 121)))]) s6_46)
noncomputable abbrev s6_48 : CC := (CC.region [(wB 123 (doMove (tm 18))), (wB 124 (bin2 fAdd (tm 123) (oN 1))), (wB 18 (doMove (tm 124)))])
noncomputable abbrev s6_49 : CC := (CC.seq s6_47 s6_48)
noncomputable abbrev s6_50 : CC := (CC.seq s6_44 s6_49)
noncomputable abbrev s6_51 : CC := (CC.block 7 s6_50)
noncomputable abbrev s6_52 : CC := (CC.region [(wB 103 (doMove (tm 19))), (wB 104 (bin2 fSub (tm 103) (oN 1))), (wB 19 (doMove (tm 104)))])
noncomputable abbrev s6_53 : CC := (CC.seq s6_51 s6_52)
noncomputable abbrev l6_3 : CC := (CC.seq s6_42 s6_53)
noncomputable abbrev s6_54 : CC := (CC.loop l6_3)
noncomputable abbrev s6_55 : CC := (CC.block 6 s6_54)
noncomputable abbrev s6_56 : CC := (CC.seq (CC.region [(wB 100 (doMove (tm 9))), (wB 19 (doMove (tm 100)))]) s6_55)
noncomputable abbrev s6_57 : CC := (CC.seq (CC.region [(wB 125 (doMove (tm 18))), (wB 126 (doMove (tm 17))), (wB 127 (doLen (tm 126))), (wB 128 (bin2 fEql (tm 125) (tm 127))), (wB 8 (doMove (tm 128)))]) CC.ret)
noncomputable abbrev s6_58 : CC := (CC.seq s6_56 s6_57)
noncomputable abbrev s6_59 : CC := (CC.seq (CC.region [(wB 18 (doMove (oN 0)))]) s6_58)
noncomputable abbrev s6_60 : CC := (CC.seq (CC.region [(wB 96 (doMove (tm 10))), (wB 97 (doMove (tm 12))), (wB 98 (doMove (tm 3))), (wB 99 (doCall 16 [(tm 96), (tm 97), (tm 98)])), (wB 17 (doMove (tm 99)))]) s6_59)
noncomputable abbrev s6_61 : CC := (CC.seq s6_40 s6_60)
noncomputable abbrev s6_62 : CC := (CC.seq (CC.region [(wB 72 (doMove (tm 11))), (wB 73 (doIndexAddr 1 (tm 72) (oN 0))), (CO.mk G.none D.none Bool.true (CR.mk (doStore 1 (tm 73) (O.c (V.b Bool.false)))))]) s6_61)
noncomputable abbrev s6_63 : CC := (CC.seq s6_25 s6_62)
noncomputable abbrev s6_64 : CC := (CC.seq (CC.region [(wB 48 (doMove (tm 11))), (wB 49 (doMove (tm 9))), (wB 50 (doIndexAddr 1 (tm 48) (tm 49))), (CO.mk G.none D.none Bool.true (CR.mk (doStore 1 (tm 50) (O.c (V.b Bool.true)))))]) s6_63)
noncomputable abbrev s6_65 : CC := (CC.seq s6_14 s6_64)
noncomputable abbrev s6_66 : CC := (CC.seq (CC.region [(wB 12 (doMove (O.c V.l0)))]) s6_65)
noncomputable abbrev s6_67 : CC := (CC.seq (CC.region [(wB 29 (doMove (tm 9))), (wB 30 (bin2 fAdd (tm 29) (oN 1))), (wB 31 (doMakeSlice 4 [(V.b Bool.false)] (tm 30) (tm 30))), (wB 11 (doMove (tm 31)))]) s6_66)
noncomputable abbrev s6_68 : CC := (CC.seq (CC.region [(wB 10 (doMove (O.c V.l0)))]) s6_67)
noncomputable abbrev s6_69 : CC := (CC.seq (CC.region [(wB 25 (doMove (tm 0))), (wB 26 (doRem (tm 25) (O.c (V.i IntKind.u8 (Int.ofNat 20))))), (wB 27 (doConv IntKind.i64 (tm 26))), (wB 28 (bin2 fAdd (tm 27) (oN 1))), (wB 9 (doMove (tm 28)))]) s6_68)
noncomputable abbrev s6_70 : CC := (CC.seq s6_5 s6_69)
noncomputable abbrev s6_71 : CC := (CC.seq s6_2 s6_70)
noncomputable abbrev b6 : CC := (CC.seq (CC.region [(wB 8 (doMove (O.c (V.b Bool.false))))]) s6_71)
theorem c6 : compFn Try.prog 6 = ⟨129, b6, [(Rs.tmp (slOf 8))]⟩ := by kernel_rfl
noncomputable abbrev s7_0 : CC := (CC.seq (CC.region [(wB 6 (doMove (O.c (V.b Bool.false))))]) CC.ret)
noncomputable abbrev s7_1 : CC := (CC.cond (tm 18) s7_0 CC.skip)
noncomputable abbrev s7_2 : CC := (CC.seq (CC.region [(wB 17 (doCall 8 [])), (wB 18 (doNot (tm 17)))]) s7_1)
noncomputable abbrev s7_3 : CC := (CC.seq (CC.region [(wB 6 (doMove (O.c (V.b Bool.true))))]) CC.ret)
noncomputable abbrev s7_4 : CC := (CC.cond (tm 26) s7_3 CC.skip)
noncomputable abbrev s7_5 : CC := (CC.seq (CC.region [(wB 19 (doMove (tm 0))), (wB 20 (doLen (tm 19))), (wB 21 (bin2 fGtr (tm 20) (oN 30))), (wB 22 (doMove (tm 21))), (wG 22 false 23 (doMove (tm 1))), (wG 22 false 24 (doLen (tm 23))), (wG 22 false 25 (bin2 fGtr (tm 24) (oN 30))), (wB 26 (doPick (tm 22) (O.c (V.b Bool.true)) (tm 25)))]) s7_4)
noncomputable abbrev s7_6 : CC := (CC.cond (tm 30) CC.skip (CC.exit 0))
noncomputable abbrev s7_7 : CC := (CC.seq (CC.region [(wB 27 (doMove (tm 8))), (wB 28 (doMove (tm 0))), (wB 29 (doLen (tm 28))), (wB 30 (bin2 fLss (tm 27) (tm 29)))]) s7_6)
noncomputable abbrev s7_8 : CC := (CC.region [(wB 33 (doMove (tm 0))), (wB 34 (doMove (tm 8))), (wB 35 (doIndexAddr 1 (tm 33) (tm 34))), (wB 36 (doLoad (tm 35))), (wB 37 (doRem (tm 36) (O.c (V.i IntKind.u8 (Int.ofNat 26))))), (wB 38 (doIndexAddrArr 2 26 (tm 7) (oN 0))), (wB 39 (doIndexAddrArr 26 1 (tm 38) (tm 37))), (CO.mk G.none D.none Bool.true (CR.mk (doStore 1 (tm 39) (O.c (V.b Bool.true)))))])
noncomputable abbrev s7_9 : CC := (CC.block 1 s7_8)
noncomputable abbrev s7_10 : CC := (CC.region [(wB 31 (doMove (tm 8))), (wB 32 (bin2 fAdd (tm 31) (oN 1))), (wB 8 (doMove (tm 32)))])
noncomputable abbrev s7_11 : CC := (CC.seq s7_9 s7_10)
noncomputable abbrev l7_0 : CC := (CC.seq s7_7 s7_11)
noncomputable abbrev s7_12 : CC := (CC.loop l7_0)
noncomputable abbrev s7_13 : CC := (CC.block 0 s7_12)
noncomputable abbrev s7_14 : CC := (CC.seq (CC.region [(wB 8 (doMove (oN 0)))]) s7_13)
noncomputable abbrev s7_15 : CC := (CC.cond (tm 43) CC.skip (CC.exit 2))
noncomputable abbrev s7_16 : CC := (CC.seq (CC.region [(wB 40 (doMove (tm 9))), (wB 41 (doMove (tm 1))), (wB 42 (doLen (tm 41))), (wB 43 (bin2 fLss (tm 40) (tm 42)))]) s7_15)
noncomputable abbrev s7_17 : CC := (CC.region [(wB 46 (doMove (tm 1))), (wB 47 (doMove (tm 9))), (wB 48 (doIndexAddr 1 (tm 46) (tm 47))), (wB 49 (doLoad (tm 48))), (wB 50 (doRem (tm 49) (O.c (V.i IntKind.u8 (Int.ofNat 26))))), (wB 51 (doIndexAddrArr 2 26 (tm 7) (oN 1))), (wB 52 (doIndexAddrArr 26 1 (tm 51) (tm 50))), (CO.mk G.none D.none Bool.true (CR.mk (doStore 1 (tm 52) (O.c (V.b Bool.true)))))])
noncomputable abbrev s7_18 : CC := (CC.block 3 s7_17)
noncomputable abbrev s7_19 : CC := (CC.region [(wB 44 (doMove (tm 9))), (wB 45 (bin2 fAdd (tm 44) (oN 1))), (wB 9 (doMove (tm 45)))])
noncomputable abbrev s7_20 : CC := (CC.seq s7_18 s7_19)
noncomputable abbrev l7_1 : CC := (CC.seq s7_16 s7_20)
noncomputable abbrev s7_21 : CC := (CC.loop l7_1)
noncomputable abbrev s7_22 : CC := (CC.block 2 s7_21)
noncomputable abbrev s7_23 : CC := (CC.seq (CC.region [(wB 9 (doMove (oN 0)))]) s7_22)
noncomputable abbrev s7_24 : CC := (CC.cond (tm 54) CC.skip (CC.exit 4))
noncomputable abbrev s7_25 : CC := (CC.seq (CC.region [(wB 53 (doMove (tm 13))), (wB 54 (bin2 fLss (tm 53) (oN 26)))]) s7_24)
noncomputable abbrev s7_26 : CC := (CC.cond (tm 58) CC.skip (CC.exit 6))
noncomputable abbrev s7_27 : CC := (CC.seq (CC.region [(wB 57 (doMove (tm 14))), (wB 58 (bin2 fLss (tm 57) (oN 2)))]) s7_26)
noncomputable abbrev s7_28 : CC := (CC.region [(wB 84 (doMove (tm 11))), (wB 85 (bin2 fAdd (tm 84) (oN 1))), (wB 11 (doMove (tm 85)))])
noncomputable abbrev s7_29 : CC := (CC.seq (CC.draws [(uB 66 (doMove (tm 14))), (uB 67 (doMove (tm 14))), (uB 68 (doIndexAddrArr 2 1 (tm 10) (tm 67))), (uB 69 (doLoad (tm 68))), (uB 70 (doMove (tm 13))), (uB 71 (bin2 fAdd (oN 97) (tm 70))), (uB 72 (doConv IntKind.u8 (tm 71))), (uB 73 (doBuildSlice 5 1 [(V.i IntKind.u8 (Int.ofNat 0))] [(Pt.mk 0 1 (tm 72))])), (uB 74 (doB2S (tm 73))), (uB 75 (doMove (tm 13))), (uB 76 (bin2 fAdd (tm 75) (oN 1))), (uB 77 (doMove (tm 14))), (uB 78 (bin2 fMul (oN 100) (tm 77))), (uB 79 (bin2 fAdd (tm 76) (tm 78))), (uB 80 (doBuild [(V.s 0 0), (V.i IntKind.i64 (Int.ofNat 0)), (V.b Bool.false), (V.s 0 0)] [(Pt.mk 0 1 (tm 74)), (Pt.mk 1 1 (tm 79))])), (uB 81 (doBuildSlice 39 1 [(V.s 0 0), (V.i IntKind.i64 (Int.ofNat 0)), (V.b Bool.false), (V.s 0 0)] [(Pt.mk 0 4 (tm 80))])), (wB 82 (doAppend 39 4 (tm 69) (tm 81))), (uB 83 (doIndexAddrArr 2 1 (tm 10) (tm 66))), (CO.mk G.none D.none Bool.true (CR.mk (doStore 1 (tm 83) (tm 82))))]) s7_28)
noncomputable abbrev s7_30 : CC := (CC.cond (tm 65) s7_29 CC.skip)
noncomputable abbrev s7_31 : CC := (CC.seq (CC.region [(wB 61 (doMove (tm 14))), (wB 62 (doMove (tm 13))), (wB 63 (doIndexAddrArr 2 26 (tm 7) (tm 61))), (wB 64 (doIndexAddrArr 26 1 (tm 63) (tm 62))), (wB 65 (doLoad (tm 64)))]) s7_30)
noncomputable abbrev s7_32 : CC := (CC.block 7 s7_31)
noncomputable abbrev s7_33 : CC := (CC.region [(wB 59 (doMove (tm 14))), (wB 60 (bin2 fAdd (tm 59) (oN 1))), (wB 14 (doMove (tm 60)))])
noncomputable abbrev s7_34 : CC := (CC.seq s7_32 s7_33)
noncomputable abbrev l7_2 : CC := (CC.seq s7_27 s7_34)
noncomputable abbrev s7_35 : CC := (CC.loop l7_2)
noncomputable abbrev s7_36 : CC := (CC.block 6 s7_35)
noncomputable abbrev s7_37 : CC := (CC.seq (CC.region [(wB 14 (doMove (oN 0)))]) s7_36)
noncomputable abbrev s7_38 : CC := (CC.region [(wB 110 (doMove (tm 12))), (wB 111 (bin2 fAdd (tm 110) (oN 1))), (wB 12 (doMove (tm 111)))])
noncomputable abbrev s7_39 : CC := (CC.cond (tm 109) s7_38 CC.skip)
noncomputable abbrev s7_40 : CC := (CC.seq (CC.region [(wB 86 (doMove (tm 13))), (wB 87 (doIndexAddrArr 2 26 (tm 7) (oN 0))), (wB 88 (doIndexAddrArr 26 1 (tm 87) (tm 86))), (wB 89 (doLoad (tm 88))), (wB 90 (doMove (tm 89))), (wG 90 true 91 (doMove (tm 13))), (wG 90 true 92 (bin2 fAdd (tm 91) (oN 1))), (wG 90 true 93 (doMove (tm 2))), (wG 90 true 94 (doConv IntKind.i64 (tm 93))), (wG 90 true 95 (bin2 fLeq (tm 92) (tm 94))), (wB 96 (doPick (tm 90) (tm 95) (O.c (V.b Bool.false)))), (wB 97 (doMove (tm 96))), (wG 97 false 98 (doMove (tm 13))), (wG 97 false 99 (doIndexAddrArr 2 26 (tm 7) (oN 1))), (wG 97 false 100 (doIndexAddrArr 26 1 (tm 99) (tm 98))), (wG 97 false 101 (doLoad (tm 100))), (wG 97 false 102 (doMove (tm 101))), (wG 102 true 103 (doMove (tm 13))), (wG 102 true 104 (bin2 fAdd (tm 103) (oN 101))), (wG 102 true 105 (doMove (tm 2))), (wG 102 true 106 (doConv IntKind.i64 (tm 105))), (wG 102 true 107 (bin2 fLeq (tm 104) (tm 106))), (wG 97 false 108 (doPick (tm 102) (tm 107) (O.c (V.b Bool.false)))), (wB 109 (doPick (tm 97) (O.c (V.b Bool.true)) (tm 108)))]) s7_39)
noncomputable abbrev s7_41 : CC := (CC.seq s7_37 s7_40)
noncomputable abbrev s7_42 : CC := (CC.block 5 s7_41)
noncomputable abbrev s7_43 : CC := (CC.region [(wB 55 (doMove (tm 13))), (wB 56 (bin2 fAdd (tm 55) (oN 1))), (wB 13 (doMove (tm 56)))])
noncomputable abbrev s7_44 : CC := (CC.seq s7_42 s7_43)
noncomputable abbrev l7_3 : CC := (CC.seq s7_25 s7_44)
noncomputable abbrev s7_45 : CC := (CC.loop l7_3)
noncomputable abbrev s7_46 : CC := (CC.block 4 s7_45)
noncomputable abbrev s7_47 : CC := (CC.seq (CC.region [(wB 13 (doMove (oN 0)))]) s7_46)
noncomputable abbrev s7_48 : CC := (CC.seq (CC.region [(wB 121 (doMove (tm 16))), (wB 122 (bin2 fEql (tm 121) (oN 0))), (wB 123 (doMove (tm 122))), (wG 123 true 124 (doMove (tm 15))), (wG 123 true 125 (doLen (tm 124))), (wG 123 true 126 (doMove (tm 11))), (wG 123 true 127 (bin2 fEql (tm 125) (tm 126))), (wB 128 (doPick (tm 123) (tm 127) (O.c (V.b Bool.false)))), (wB 129 (doMove (tm 128))), (wG 129 true 130 (doMove (tm 15))), (wG 129 true 131 (doMove (tm 2))), (wG 129 true 132 (doConv IntKind.i64 (tm 131))), (wG 129 true 133 (doCall 14 [(tm 130), (tm 132)])), (wG 129 true 134 (doLen (tm 133))), (wG 129 true 135 (doMove (tm 12))), (wG 129 true 136 (bin2 fEql (tm 134) (tm 135))), (wB 137 (doPick (tm 129) (tm 136) (O.c (V.b Bool.false)))), (wB 6 (doMove (tm 137)))]) CC.ret)
noncomputable abbrev s7_49 : CC := (CC.seq (CC.region [(wB 113 (doIndexAddrArr 2 1 (tm 10) (oN 0))), (wB 114 (doLoad (tm 113))), (wB 115 (doIndexAddrArr 2 1 (tm 10) (oN 1))), (wB 116 (doLoad (tm 115))), (wB 117 (doBuildSlice 23 2 [V.l0, V.l0] [(Pt.mk 0 1 (tm 114)), (Pt.mk 1 1 (tm 116))])), (wB 118 (doCall 11 [(tm 117)])), (wB 112 (doMove (tm 118))), (wB 119 (doExtract 0 (tm 112))), (wB 120 (doExtract 1 (tm 112))), (wB 15 (doMove (tm 119))), (wB 16 (doMove (tm 120)))]) s7_48)
noncomputable abbrev s7_50 : CC := (CC.seq s7_47 s7_49)
noncomputable abbrev s7_51 : CC := (CC.seq (CC.region [(wB 11 (doMove (oN 0))), (wB 12 (doMove (oN 0)))]) s7_50)
noncomputable abbrev s7_52 : CC := (CC.seq (CC.region [(wB 10 (doAlloc 51 [V.l0, V.l0]))]) s7_51)
noncomputable abbrev s7_53 : CC := (CC.seq s7_23 s7_52)
noncomputable abbrev s7_54 : CC := (CC.seq s7_14 s7_53)
noncomputable abbrev s7_55 : CC := (CC.seq (CC.region [(wB 7 (doAlloc 50 [(V.b Bool.false), (V.b Bool.false), (V.b Bool.false), (V.b Bool.false), (V.b Bool.false), (V.b Bool.false), (V.b Bool.false), (V.b Bool.false), (V.b Bool.false), (V.b Bool.false), (V.b Bool.false), (V.b Bool.false), (V.b Bool.false), (V.b Bool.false), (V.b Bool.false), (V.b Bool.false), (V.b Bool.false), (V.b Bool.false), (V.b Bool.false), (V.b Bool.false), (V.b Bool.false), (V.b Bool.false), (V.b Bool.false), (V.b Bool.false), (V.b Bool.false), (V.b Bool.false), (V.b Bool.false), (V.b Bool.false), (V.b Bool.false), (V.b Bool.false), (V.b Bool.false), (V.b Bool.false), (V.b Bool.false), (V.b Bool.false), (V.b Bool.false), (V.b Bool.false), (V.b Bool.false), (V.b Bool.false), (V.b Bool.false), (V.b Bool.false), (V.b Bool.false), (V.b Bool.false), (V.b Bool.false), (V.b Bool.false), (V.b Bool.false), (V.b Bool.false), (V.b Bool.false), (V.b Bool.false), (V.b Bool.false), (V.b Bool.false), (V.b Bool.false), (V.b Bool.false)]))]) s7_54)
noncomputable abbrev s7_56 : CC := (CC.seq s7_5 s7_55)
noncomputable abbrev s7_57 : CC := (CC.seq s7_2 s7_56)
noncomputable abbrev b7 : CC := (CC.seq (CC.region [(wB 6 (doMove (O.c (V.b Bool.false))))]) s7_57)
theorem c7 : compFn Try.prog 7 = ⟨138, b7, [(Rs.tmp (slOf 6))]⟩ := by kernel_rfl
end Go.Proofs.Ytnjgoggnhdpnoaa

set_option maxRecDepth 100000
set_option maxHeartbeats 8000000
set_option linter.all false
namespace Go.Proofs.Ytnjgoggnhdpnoaa
open Go Go.Ev
theorem few11_ok {h : H} {v : V} {L : List Ent} (hL : Es h v L) (hl : L.length ≤ 9223372036854775807) : FnOk Try.prog 10 [v] h fun y h' => y = .b (fewE L) ∧ h' = h := by
  refine fn_go c10 (by intro hb; cases hb) (by simp) (by simp) fun Q hQ => ?_
  simp only [slotsF, Nat.reduceAdd]
  repeat' (first
    | refine St.h ?_
    | simp (disch := first | omega | (simp only [lnv]; omega)) only [wlk, ↓get_put', ↓reduceIte, seval]
    | (with_reducible (first | apply cd_split | apply gd_split)) <;> (intro hc; (try simp only [hcn] at hc); (try simp only [hc]); (try simp only [hcl] at hc); try omega))
  refine Ok.lp (fun m t g => ∃ j : Nat, m = L.length - j ∧ h = g ∧ (∀ i, i < j → okE (L.getD i default) = true) ∧ j ≤ L.length ∧ get 0 t = v ∧ get 3 t = .i .i64 (j : Int)) L.length ?_ ?_
  · simp (disch := first | omega | (simp only [lnv]; omega)) only [wlk, ↓get_put', ↓reduceIte, seval]
    exact ⟨0, by omega, trivial, fun i hi => by omega, by omega, trivial, rfl⟩
  rintro I hI m t g ⟨j, rfl, rfl, hs, hj, f0, f3⟩
  repeat' (first
    | refine St.h ?_
    | simp (disch := first | omega | (simp only [lnv]; omega)) only [wlk, ↓get_put', ↓reduceIte, seval, f0, f3, hL.ln, hL.ix, hL.l0, hL.l3, Int.toNat_natCast]
    | (with_reducible (first | apply cd_split | apply gd_split)) <;> (intro hc; (try simp only [hcn] at hc); (try simp only [hc]); (try simp only [hcl] at hc); try omega))
  · have hb : okE (L.getD j default) = false := by unfold okE; rw [decide_eq_false (p := (L.getD j default).key.length ≤ 20) (by omega), Bool.false_and]
    subst hQ
    exact ⟨by unfold fewE; rw [all_at (by omega) hb]; rfl, rfl⟩
  · have hb : okE (L.getD j default) = false := by unfold okE; rw [decide_eq_false (p := (L.getD j default).val.length ≤ 40) (by omega), Bool.and_false]
    subst hQ
    exact ⟨by unfold fewE; rw [all_at (by omega) hb]; rfl, rfl⟩
  · have hb : okE (L.getD j default) = true := by unfold okE; rw [decide_eq_true (p := (L.getD j default).val.length ≤ 40) (by omega), decide_eq_true (p := (L.getD j default).key.length ≤ 20) (by omega)]; rfl
    refine lp_next hI (L.length - (j + 1)) (by omega) ⟨j + 1, rfl, rfl, fun i hi => ?_, by omega, ?_, ?_⟩
    · rcases Nat.lt_or_ge i j with h1 | h1
      · exact hs i h1
      · rw [show i = j by omega]; exact hb
    · simp (disch := first | omega | (simp only [lnv]; omega)) only [wlk, ↓get_put', ↓reduceIte, seval, f0]
    · simp (disch := first | omega | (simp only [lnv]; omega)) only [wlk, ↓get_put', ↓reduceIte, seval]; rfl
  · subst hQ
    obtain rfl : j = L.length := by omega
    refine ⟨?_, rfl⟩
    unfold fewE
    rw [all_ok hs, Bool.true_and]
    congr 2
    exact propext ⟨fun h => by omega, fun h => by omega⟩
def few25 (L : List Ent) : Bool := fewE L && decide (L.length ≤ 25)
def fewR (R : List (List Ent)) : Bool := R.all few25 && decide (R.length ≤ 5)
theorem fewR_len {R : List (List Ent)} (h : fewR R = true) : R.length ≤ 5 ∧ R.flatten.length ≤ 125 := by
  unfold fewR at h
  rw [Bool.and_eq_true] at h
  have h2 := of_decide_eq_true h.2
  refine ⟨h2, ?_⟩
  have h1 := List.all_eq_true.1 h.1
  have go : ∀ R : List (List Ent), (∀ a ∈ R, few25 a = true) → R.flatten.length ≤ 25 * R.length := by
    intro R
    induction R with
    | nil => intro _; simp
    | cons a R ih =>
      intro hh
      have := hh a (by simp)
      unfold few25 at this
      rw [Bool.and_eq_true] at this
      have h3 := of_decide_eq_true this.2
      have := ih fun b hb => hh b (List.mem_cons_of_mem _ hb)
      rw [List.flatten_cons, List.length_append, List.length_cons]; omega
  have := go R h1
  omega
theorem fewRows_ok {h : H} {v : V} {R : List (List Ent)} {ks : List Bk} (hB : Bls h v R ks) (hl : R.length ≤ 9223372036854775807) (hl2 : ∀ a ∈ R, a.length ≤ 9223372036854775807) : FnOk Try.prog 9 [v] h fun y h' => y = .b (fewR R) ∧ h' = h := by
  refine fn_go c9 (by intro hb; cases hb) (by simp) (by simp) fun Q hQ => ?_
  simp only [slotsF, Nat.reduceAdd]
  repeat' (first
    | refine St.h ?_
    | simp (disch := first | omega | (simp only [lnv]; omega)) only [wlk, ↓get_put', ↓reduceIte, seval]
    | (with_reducible (first | apply cd_split | apply gd_split)) <;> (intro hc; (try simp only [hcn] at hc); (try simp only [hc]); (try simp only [hcl] at hc); try omega))
  refine Ok.lp (fun m t g => ∃ j : Nat, m = R.length - j ∧ h = g ∧ (∀ i, i < j → few25 (R.getD i []) = true) ∧ j ≤ R.length ∧ get 0 t = v ∧ get 3 t = .i .i64 (j : Int)) R.length ?_ ?_
  · simp (disch := first | omega | (simp only [lnv]; omega)) only [wlk, ↓get_put', ↓reduceIte, seval]
    exact ⟨0, by omega, trivial, fun i hi => by omega, by omega, trivial, rfl⟩
  rintro I hI m t g ⟨j, rfl, rfl, hs, hj, f0, f3⟩
  by_cases hjl : j < R.length
  case neg =>
    obtain rfl : j = R.length := by omega
    have hall : R.all few25 = true := by
      rw [List.all_eq_true]
      intro a ha
      obtain ⟨q, hq, rfl⟩ := List.getElem_of_mem ha
      have := hs q hq
      rwa [List.getD_eq_getElem?_getD, List.getElem?_eq_getElem hq] at this
    repeat' (first
      | refine St.h ?_
      | simp (disch := first | omega | (simp only [lnv]; omega)) only [wlk, ↓get_put', ↓reduceIte, seval, f0, f3, hB.ln]
      | (with_reducible (first | apply cd_split | apply gd_split)) <;> (intro hc; (try simp only [hcn] at hc); (try simp only [hc]); (try simp only [hcl] at hc); try omega))
    subst hQ
    refine ⟨?_, rfl⟩
    unfold fewR
    rw [hall, Bool.true_and]
    congr 2
    exact propext ⟨fun h => by omega, fun h => by omega⟩
  have hes := hB.at hjl
  have hrl := hl2 _ (show R.getD j [] ∈ R by rw [List.getD_eq_getElem?_getD, List.getElem?_eq_getElem hjl]; simp)
  have hno : few25 (R.getD j []) = false → fewR R = false := fun hb => by
    have : R.all few25 = false := by
      rw [List.all_eq_false]
      exact ⟨R.getD j [], by rw [List.getD_eq_getElem?_getD, List.getElem?_eq_getElem hjl]; simp, by rw [hb]; simp⟩
    unfold fewR; rw [this]; rfl
  repeat' (first
    | refine St.h ?_
    | simp (disch := first | omega | (simp only [lnv]; omega)) only [wlk, ↓get_put', ↓reduceIte, seval, f0, f3, hB.ln, hB.ix hjl, hB.ld hjl, Int.toNat_natCast]
    | (with_reducible (first | apply cd_split | apply gd_split)) <;> (intro hc; (try simp only [hcn] at hc); (try simp only [hc]); (try simp only [hcl] at hc); try omega))
  refine CL.pure (few11_ok hes hrl) ?_
  cases hfe : fewE (R.getD j []) with
  | false =>
    repeat' (first
      | refine St.h ?_
      | simp (disch := first | omega | (simp only [lnv]; omega)) only [wlk, ↓get_put', ↓reduceIte, seval]
      | (with_reducible (first | apply cd_split | apply gd_split)) <;> (intro hc; (try simp only [hcn] at hc); (try simp only [hc]); (try simp only [hcl] at hc); try omega))
    subst hQ
    exact ⟨by rw [hno (by unfold few25; rw [hfe]; rfl)], rfl⟩
  | true =>
  by_cases h25 : (R.getD j []).length ≤ 25
  · have hd : (25 < ((R.getD j []).length : Int)) = False := eq_false (by omega)
    repeat' (first
      | refine St.h ?_
      | simp (disch := first | omega | (simp only [lnv]; omega)) only [wlk, ↓get_put', ↓reduceIte, seval, f0, f3, hB.ix hjl, hB.ld hjl, hes.ln, hd, Int.toNat_natCast]
      | (with_reducible (first | apply cd_split | apply gd_split)) <;> (intro hc; (try simp only [hcn] at hc); (try simp only [hc]); (try simp only [hcl] at hc); try omega))
    refine lp_next hI (R.length - (j + 1)) (by omega) ⟨j + 1, rfl, rfl, fun i hi => ?_, by omega, by simp (disch := first | omega | (simp only [lnv]; omega)) only [wlk, ↓get_put', ↓reduceIte, seval, f0], by simp (disch := first | omega | (simp only [lnv]; omega)) only [wlk, ↓get_put', ↓reduceIte, seval, f3]; rfl⟩
    by_cases e : i = j
    · rw [e]; unfold few25; rw [hfe, decide_eq_true h25]; rfl
    · exact hs i (by omega)
  · have hd : (25 < ((R.getD j []).length : Int)) = True := eq_true (by omega)
    repeat' (first
      | refine St.h ?_
      | simp (disch := first | omega | (simp only [lnv]; omega)) only [wlk, ↓get_put', ↓reduceIte, seval, f0, f3, hB.ix hjl, hB.ld hjl, hes.ln, hd, Int.toNat_natCast]
      | (with_reducible (first | apply cd_split | apply gd_split)) <;> (intro hc; (try simp only [hcn] at hc); (try simp only [hc]); (try simp only [hcl] at hc); try omega))
    subst hQ
    exact ⟨by rw [hno (by unfold few25; rw [decide_eq_false h25, Bool.and_false])], rfl⟩
theorem mergeTells_ok {h : H} {v u x : V} {R : List (List Ent)} {ks : List Bk} {L : List Ent} {s : Int} {S : List Int} {b : Bool} (hB : Bls h v R ks) (swv : SwN 1 v) (swu : SwN 4 u) (hl : R.length ≤ 9223372036854775807) (hl2 : ∀ a ∈ R, a.length ≤ 9223372036854775807) (hL : Es h u L) (hl3 : L.length ≤ 9223372036854775807) (_ : -9223372036854775808 ≤ s) (_ : s ≤ 9223372036854775807) (hS : Kl h .i64 x S) (hl4 : S.length ≤ 9223372036854775807) (hw : ∀ n ∈ S, -9223372036854775808 ≤ n ∧ n ≤ 9223372036854775807) (hf : B.val h.floor ≤ B.val h.next) : FnOk Try.prog 3 [v, u, .i .i64 s, x, .b b] h fun y h' => y = .b true := by
  refine fn_go c3 (by intro hb; cases hb) (by simp) (by simp) fun Q hQ => ?_
  simp only [slotsF, Nat.reduceAdd]
  repeat' (first
    | refine St.h ?_
    | simp (disch := first | omega | (simp only [lnv]; omega)) only [wlk, ↓get_put', ↓reduceIte, seval]
    | (with_reducible (first | apply cd_split | apply gd_split)) <;> (intro hc; (try simp only [hcn] at hc); (try simp only [hc]); (try simp only [hcl] at hc); try omega))
  refine CL.pure known11 ?_
  repeat' (first
    | refine St.h ?_
    | simp (disch := first | omega | (simp only [lnv]; omega)) only [wlk, ↓get_put', ↓reduceIte, seval]
    | (with_reducible (first | apply cd_split | apply gd_split)) <;> (intro hc; (try simp only [hcn] at hc); (try simp only [hc]); (try simp only [hcl] at hc); try omega))
  refine CL.pure (fewRows_ok hB hl hl2) ?_
  cases hfr : fewR R with
  | false =>
    repeat' (first
      | refine St.h ?_
      | simp (disch := first | omega | (simp only [lnv]; omega)) only [wlk, ↓get_put', ↓reduceIte, seval]
      | (with_reducible (first | apply cd_split | apply gd_split)) <;> (intro hc; (try simp only [hcn] at hc); (try simp only [hc]); (try simp only [hcl] at hc); try omega))
    subst hQ; rfl
  | true =>
  obtain ⟨r5, r125⟩ := fewR_len hfr
  repeat' (first
    | refine St.h ?_
    | simp (disch := first | omega | (simp only [lnv]; omega)) only [wlk, ↓get_put', ↓reduceIte, seval]
    | (with_reducible (first | apply cd_split | apply gd_split)) <;> (intro hc; (try simp only [hcn] at hc); (try simp only [hc]); (try simp only [hcl] at hc); try omega))
  refine CL.pure (few11_ok hL hl3) ?_
  cases hfl : fewE L with
  | false =>
    repeat' (first
      | refine St.h ?_
      | simp (disch := first | omega | (simp only [lnv]; omega)) only [wlk, ↓get_put', ↓reduceIte, seval]
      | (with_reducible (first | apply cd_split | apply gd_split)) <;> (intro hc; (try simp only [hcn] at hc); (try simp only [hc]); (try simp only [hcl] at hc); try omega))
    subst hQ; rfl
  | true =>
  obtain ⟨hl60, _⟩ := few_len hfl
  repeat' (first
    | refine St.h ?_
    | simp (disch := first | omega | (simp only [lnv]; omega)) only [wlk, ↓get_put', ↓reduceIte, seval, kl_lnM hS]
    | (with_reducible (first | apply cd_split | apply gd_split)) <;> (intro hc; (try simp only [hcn] at hc); (try simp only [hc]); (try simp only [hcl] at hc); try omega))
  · subst hQ; rfl
  refine CL.mk (mrows_ok hB swv (by omega) (by omega) hf) ?_
  rintro _ h1 ⟨w1, rfl, e1, _, s1⟩
  have hf1 := s1.fl hf
  have hB1 := hB.grow s1
  repeat' (first
    | refine St.h ?_
    | simp (disch := first | omega | (simp only [lnv]; omega)) only [wlk, ↓get_put', ↓reduceIte, seval]
    | (with_reducible (first | apply cd_split | apply gd_split)) <;> (intro hc; (try simp only [hcn] at hc); (try simp only [hc]); (try simp only [hcl] at hc); try omega))
  refine CL.mk (rrows_ok hB1 (by omega) (by omega) hf1) ?_
  rintro _ h2 ⟨w2, rfl, e2, _, s2⟩
  have hf2 := s2.fl hf1
  have e12 := e1.grow s2
  have s02 := s1.trans s2
  have hrl : (rowsE R).1.length ≤ 9223372036854775807 := by
    unfold rowsE
    split
    · have := addsE_len (L := []) (M := R.flatten)
      show (addsE [] R.flatten).length ≤ _
      simp only [List.length_nil] at this; omega
    · simp
  repeat' (first
    | refine St.h ?_
    | simp (disch := first | omega | (simp only [lnv]; omega)) only [wlk, ↓get_put', ↓reduceIte, seval]
    | (with_reducible (first | apply cd_split | apply gd_split)) <;> (intro hc; (try simp only [hcn] at hc); (try simp only [hc]); (try simp only [hcl] at hc); try omega))
  refine CL.pure (rsame_ok e12 e2 hrl) ?_
  have hd4 : ((rowsE R).1 = (rowsE R).1) = True := eq_true rfl
  have her : errR R = if (rowsE R).2 then 0 else 16 := rfl
  have vl : ∀ q, (visE L q).length ≤ 60 := fun q => by
    unfold visE; split
    · have := List.length_filter_le (visP L q) L; omega
    · simp
  have pl : (packE L S b).length ≤ 60 := by have := (packE_sub (L := L) (held := S) (b := b)).length_le; omega
  have hd5 : (visE L s = visE L s) = True := eq_true rfl
  have hd6 : (packE L S b = packE L S b) = True := eq_true rfl
  have hL2 := hL.grow s02
  have hS2 : Kl h2 .i64 x S := Lst.grow hS s02
  have z1 : ((16 : Int) = 0) = False := eq_false (by omega)
  cases hr2 : (rowsE R).2 with
  | true =>
    rw [hr2] at her
    have her : errR R = 0 := her
    rw [her]
    repeat' (first
      | refine St.h ?_
      | simp (disch := first | omega | (simp only [lnv]; omega)) only [wlk, ↓get_put', ↓reduceIte, seval, hd4]
      | (with_reducible (first | apply cd_split | apply gd_split)) <;> (intro hc; (try simp only [hcn] at hc); (try simp only [hc]); (try simp only [hcl] at hc); try omega))
    refine CL.mk (mvis_ok (s := s) hL2 swu (by omega) (by omega) (by omega) hf2) ?_
    rintro w3 h3 ⟨e3, _, s3⟩
    have hf3 := s3.fl hf2
    have hL3 := hL2.grow s3
    repeat' (first
      | refine St.h ?_
      | simp (disch := first | omega | (simp only [lnv]; omega)) only [wlk, ↓get_put', ↓reduceIte, seval]
      | (with_reducible (first | apply cd_split | apply gd_split)) <;> (intro hc; (try simp only [hcn] at hc); (try simp only [hc]); (try simp only [hcl] at hc); try omega))
    refine CL.mk (rvis_ok (s := s) hL3 (by omega) (by omega) (by omega) hf3) ?_
    rintro w4 h4 ⟨e4, _, s4⟩
    have hf4 := s4.fl hf3
    have hL4 := hL3.grow s4
    have hS4 : Kl h4 .i64 x S := Lst.grow hS2 (s3.trans s4)
    repeat' (first
      | refine St.h ?_
      | simp (disch := first | omega | (simp only [lnv]; omega)) only [wlk, ↓get_put', ↓reduceIte, seval]
      | (with_reducible (first | apply cd_split | apply gd_split)) <;> (intro hc; (try simp only [hcn] at hc); (try simp only [hc]); (try simp only [hcl] at hc); try omega))
    refine CL.pure (rsame_ok (e3.grow s4) e4 (by have := vl s; omega)) ?_
    repeat' (first
      | refine St.h ?_
      | simp (disch := first | omega | (simp only [lnv]; omega)) only [wlk, ↓get_put', ↓reduceIte, seval, hd5]
      | (with_reducible (first | apply cd_split | apply gd_split)) <;> (intro hc; (try simp only [hcn] at hc); (try simp only [hc]); (try simp only [hcl] at hc); try omega))
    refine CL.mk (mpack_ok (b := b) hL4 swu hS4 (by omega) (by omega) hw hf4) ?_
    rintro w5 h5 ⟨e5, _, s5⟩
    have hf5 := s5.fl hf4
    have hL5 := hL4.grow s5
    have hS5 : Kl h5 .i64 x S := Lst.grow hS4 s5
    repeat' (first
      | refine St.h ?_
      | simp (disch := first | omega | (simp only [lnv]; omega)) only [wlk, ↓get_put', ↓reduceIte, seval]
      | (with_reducible (first | apply cd_split | apply gd_split)) <;> (intro hc; (try simp only [hcn] at hc); (try simp only [hc]); (try simp only [hcl] at hc); try omega))
    refine CL.mk (rpack_ok (b := b) hL5 hS5 (by omega) hl4 hw hf5) ?_
    rintro w6 h6 ⟨e6, _, s6⟩
    repeat' (first
      | refine St.h ?_
      | simp (disch := first | omega | (simp only [lnv]; omega)) only [wlk, ↓get_put', ↓reduceIte, seval]
      | (with_reducible (first | apply cd_split | apply gd_split)) <;> (intro hc; (try simp only [hcn] at hc); (try simp only [hc]); (try simp only [hcl] at hc); try omega))
    refine CL.pure (rsame_ok (e5.grow s6) e6 (by omega)) ?_
    repeat' (first
      | refine St.h ?_
      | simp (disch := first | omega | (simp only [lnv]; omega)) only [wlk, ↓get_put', ↓reduceIte, seval, hd6]
      | (with_reducible (first | apply cd_split | apply gd_split)) <;> (intro hc; (try simp only [hcn] at hc); (try simp only [hc]); (try simp only [hcl] at hc); try omega))
    subst hQ; rfl
  | false =>
    rw [hr2] at her
    have her : errR R = 16 := her
    rw [her]
    repeat' (first
      | refine St.h ?_
      | simp (disch := first | omega | (simp only [lnv]; omega)) only [wlk, ↓get_put', ↓reduceIte, seval, hd4, z1]
      | (with_reducible (first | apply cd_split | apply gd_split)) <;> (intro hc; (try simp only [hcn] at hc); (try simp only [hc]); (try simp only [hcl] at hc); try omega))
    refine CL.mk (mvis_ok (s := s) hL2 swu (by omega) (by omega) (by omega) hf2) ?_
    rintro w3 h3 ⟨e3, _, s3⟩
    have hf3 := s3.fl hf2
    have hL3 := hL2.grow s3
    repeat' (first
      | refine St.h ?_
      | simp (disch := first | omega | (simp only [lnv]; omega)) only [wlk, ↓get_put', ↓reduceIte, seval]
      | (with_reducible (first | apply cd_split | apply gd_split)) <;> (intro hc; (try simp only [hcn] at hc); (try simp only [hc]); (try simp only [hcl] at hc); try omega))
    refine CL.mk (rvis_ok (s := s) hL3 (by omega) (by omega) (by omega) hf3) ?_
    rintro w4 h4 ⟨e4, _, s4⟩
    have hf4 := s4.fl hf3
    have hL4 := hL3.grow s4
    have hS4 : Kl h4 .i64 x S := Lst.grow hS2 (s3.trans s4)
    repeat' (first
      | refine St.h ?_
      | simp (disch := first | omega | (simp only [lnv]; omega)) only [wlk, ↓get_put', ↓reduceIte, seval]
      | (with_reducible (first | apply cd_split | apply gd_split)) <;> (intro hc; (try simp only [hcn] at hc); (try simp only [hc]); (try simp only [hcl] at hc); try omega))
    refine CL.pure (rsame_ok (e3.grow s4) e4 (by have := vl s; omega)) ?_
    repeat' (first
      | refine St.h ?_
      | simp (disch := first | omega | (simp only [lnv]; omega)) only [wlk, ↓get_put', ↓reduceIte, seval, hd5]
      | (with_reducible (first | apply cd_split | apply gd_split)) <;> (intro hc; (try simp only [hcn] at hc); (try simp only [hc]); (try simp only [hcl] at hc); try omega))
    refine CL.mk (mpack_ok (b := b) hL4 swu hS4 (by omega) (by omega) hw hf4) ?_
    rintro w5 h5 ⟨e5, _, s5⟩
    have hf5 := s5.fl hf4
    have hL5 := hL4.grow s5
    have hS5 : Kl h5 .i64 x S := Lst.grow hS4 s5
    repeat' (first
      | refine St.h ?_
      | simp (disch := first | omega | (simp only [lnv]; omega)) only [wlk, ↓get_put', ↓reduceIte, seval]
      | (with_reducible (first | apply cd_split | apply gd_split)) <;> (intro hc; (try simp only [hcn] at hc); (try simp only [hc]); (try simp only [hcl] at hc); try omega))
    refine CL.mk (rpack_ok (b := b) hL5 hS5 (by omega) hl4 hw hf5) ?_
    rintro w6 h6 ⟨e6, _, s6⟩
    repeat' (first
      | refine St.h ?_
      | simp (disch := first | omega | (simp only [lnv]; omega)) only [wlk, ↓get_put', ↓reduceIte, seval]
      | (with_reducible (first | apply cd_split | apply gd_split)) <;> (intro hc; (try simp only [hcn] at hc); (try simp only [hc]); (try simp only [hcl] at hc); try omega))
    refine CL.pure (rsame_ok (e5.grow s6) e6 (by omega)) ?_
    repeat' (first
      | refine St.h ?_
      | simp (disch := first | omega | (simp only [lnv]; omega)) only [wlk, ↓get_put', ↓reduceIte, seval, hd6]
      | (with_reducible (first | apply cd_split | apply gd_split)) <;> (intro hc; (try simp only [hcn] at hc); (try simp only [hc]); (try simp only [hcl] at hc); try omega))
    subst hQ; rfl
end Go.Proofs.Ytnjgoggnhdpnoaa

set_option linter.all false
namespace Go.Proofs.Ytnjgoggnhdpnoaa
open Go Go.Ev
def hE (D : Nat → Bool) (i : Nat) : Ent := ⟨[107], (i : Int), D i, []⟩
section
variable {D w : Nat → Bool} {k : Nat}
/-- the array behind the third loop, stopped at i -/
def f4 (w : Nat → Bool) (i j : Nat) : Bool := decide (i ≤ j) && w j
end
end Go.Proofs.Ytnjgoggnhdpnoaa

set_option linter.all false
namespace Go.Ev
open Go Go.RowKit Go.WideShapes Go.ChangeShapes Go.ChangeAt Go.Deep
section
variable {H' : Type} {enc : TypeId × Value → H'} {P : Program}
theorem flat_of {W : World} {t : TypeId} {fs : Array Field} {fuel : Nat} {cs : List Value} {x : DataW H' × List MemPlace} (ut : P.underlying t = some (.struct fs)) (hd : DataW.trod enc P W 0 (fun _ => true) true fuel t cs = some x) :
    cs.length = P.cellsOf t ∧ ∀ (i : Nat) f, fs.toList[i]? = some f → ∃ n y, DataW.trod enc P W 0 (fun _ => true) true n f.type ((cs.drop f.offset).take (P.cellsOf f.type)) = some y := by
  cases fuel with
  | zero => simp [DataW.trod] at hd
  | succ n =>
    unfold DataW.trod at hd
    rw [ut] at hd
    simp only at hd
    split at hd
    · rename_i hl
      refine ⟨hl, fun i f hf => ?_⟩
      rw [Option.map_eq_some_iff] at hd
      obtain ⟨xs, hx, _⟩ := hd
      have := mapM_some_get hx i f hf
      have hlen := mapM_some_length hx
      have hi : i < xs.length := by rw [hlen]; exact (List.getElem?_eq_some_iff.1 hf).1
      exact ⟨n, xs[i], by rw [this]; simp⟩
    · cases hd
structure EntF (P : Program) (t : TypeId) (fs : Array Field) : Prop where
  ut : P.underlying t = some (.struct fs)
  sz : P.cellsOf t = 4
  f0 : ∃ f, fs.toList[0]? = some f ∧ f.offset = 0 ∧ P.cellsOf f.type = 1 ∧ P.underlying f.type = some .string
  f1 : ∃ f, fs.toList[1]? = some f ∧ f.offset = 1 ∧ P.cellsOf f.type = 1 ∧ P.underlying f.type = some (.int .i64)
  f2 : ∃ f, fs.toList[2]? = some f ∧ f.offset = 2 ∧ P.cellsOf f.type = 1 ∧ P.underlying f.type = some .bool
  f3 : ∃ f, fs.toList[3]? = some f ∧ f.offset = 3 ∧ P.cellsOf f.type = 1 ∧ P.underlying f.type = some .string
/-- an entry's cells -/
def entV (k : ByteArray) (n : Int) (d : Bool) (v : ByteArray) : List Value := [.string k, .int .i64 n, .bool d, .string v]
theorem ent_cells {W : World} {t : TypeId} {fs : Array Field} {fuel : Nat} {cs : List Value} {x : DataW H' × List MemPlace} (F : EntF P t fs) (hd : DataW.trod enc P W 0 (fun _ => true) true fuel t cs = some x) :
    ∃ k n d v, cs = entV k n d v ∧ k.size ≤ maxLen ∧ v.size ≤ maxLen ∧ (Lit.int .i64 n).wf = true := by
  obtain ⟨hl, hf⟩ := flat_of F.ut hd
  rw [F.sz] at hl
  obtain ⟨f0, g0, o0, c0, u0⟩ := F.f0
  obtain ⟨f1, g1, o1, c1, u1⟩ := F.f1
  obtain ⟨f2, g2, o2, c2, u2⟩ := F.f2
  obtain ⟨f3, g3, o3, c3, u3⟩ := F.f3
  match cs, hl with
  | [a, b, c, d], _ =>
    obtain ⟨_, _, h0⟩ := hf 0 f0 g0
    obtain ⟨_, _, h1⟩ := hf 1 f1 g1
    obtain ⟨_, _, h2⟩ := hf 2 f2 g2
    obtain ⟨_, _, h3⟩ := hf 3 f3 g3
    rw [o0, c0] at h0
    rw [o1, c1] at h1
    rw [o2, c2] at h2
    rw [o3, c3] at h3
    obtain ⟨k, e0, _, z0⟩ := DataW.trod_string u0 h0
    obtain ⟨n, e1, _, z1⟩ := DataW.trod_int u1 h1
    obtain ⟨q, e2, _⟩ := DataW.trod_bool u2 h2
    obtain ⟨v, e3, _, z3⟩ := DataW.trod_string u3 h3
    simp at e0 e1 e2 e3
    exact ⟨k, n, q, v, by rw [e0, e1, e2, e3]; rfl, z0, z3, z1⟩
/-- a row of entries -/
theorem es_of {W : World} {h : H} (s : Start W h) (h0 : 0 < W.heap.size) {t e : TypeId} {fs : Array Field} {fuel : Nat} {cs : List Value} {x : DataW H' × List MemPlace} (ht : P.underlying t = some (.slice e)) (F : EntF P e fs)
    (hd : DataW.trod enc P W 0 (fun _ => true) true fuel t cs = some x) : ∃ sv L, cs = [sv] ∧ Es h (absV W sv) L ∧ L.length ≤ 9223372036854775807 ∧ ∀ e ∈ L, (e.key.length ≤ 9223372036854775807 ∧ e.val.length ≤ 9223372036854775807) ∧ -9223372036854775808 ≤ e.seq ∧ e.seq ≤ 9223372036854775807 := by
  rcases open_slice ht hd with ⟨rfl, _⟩ | ⟨a, len, cap, m, n, D, Pl, rfl, hb, hl, hm, hmm, _, hx⟩
  · exact ⟨_, [], rfl, .inl ⟨rfl, rfl⟩, by simp, fun e he => by cases he⟩
  simp only [if_true] at hmm
  rw [F.sz] at hx
  have hx' : ∀ i, i < len → ∃ k n q u, (∀ d y, (entV k n q u)[d]? = some y → W.cell? ⟨a.block, a.off + i * 4 + d, none⟩ = some y) ∧ (0 < len → a.spot = none) ∧ k.size ≤ maxLen ∧ u.size ≤ maxLen ∧ (Lit.int .i64 n).wf = true := by
    intro i hi
    obtain ⟨cs', h1, h2⟩ := hx i (by omega)
    obtain ⟨k, n, q, u, rfl, z1, z2, z3⟩ := ent_cells F h2
    obtain ⟨_, _, h3⟩ := World.cells?_some h1
    refine ⟨k, n, q, u, fun d y hy => ?_, fun _ => ?_, z1, z2, z3⟩
    · have hd : d < 4 := by have := (List.getElem?_eq_some_iff.1 hy).1; exact this
      have h4 := h3 d hd
      rw [hy] at h4
      have h5 := cell_add h4
      have e1 : (a.add (i * 4)).block = a.block := by unfold Addr.add; split <;> rfl
      have e2 : (a.add (i * 4)).off = a.off + i * 4 := by
        unfold Addr.add; split
        · rename_i hz; rw [hz]; rfl
        · rfl
      rw [e1, e2] at h5
      exact h5
    · have hlen : 0 < len := by omega
      obtain ⟨cs0, g1, g2⟩ := hx 0 (by omega)
      obtain ⟨k0, n0, q0, u0, rfl, _⟩ := ent_cells F g2
      obtain ⟨_, _, g3⟩ := World.cells?_some g1
      have g4 := g3 0 (by omega)
      have g5 := World.cell?_spot g4
      unfold Addr.add at g5
      simpa using g5
  obtain ⟨E, hE⟩ := choose_lt (α := ByteArray × Int × Bool × ByteArray) (p := fun i r => (∀ d y, (entV r.1 r.2.1 r.2.2.1 r.2.2.2)[d]? = some y → W.cell? ⟨a.block, a.off + i * 4 + d, none⟩ = some y) ∧ (0 < len → a.spot = none) ∧ r.1.size ≤ maxLen ∧ r.2.2.2.size ≤ maxLen ∧ (Lit.int .i64 r.2.1).wf = true) (fun i hi => by
    obtain ⟨k, n, q, u, h⟩ := hx' i hi
    exact ⟨(k, n, q, u), h⟩)
  let G : Nat → Ent := fun i => ⟨(E i).1.data.toList, (E i).2.1, (E i).2.2.1, (E i).2.2.2.data.toList⟩
  have hL : ((List.range len).map G).length = len := by simp
  refine ⟨_, (List.range len).map G, rfl, ?_, by rw [hL]; exact maxLen_le (by omega), fun e he => ?_⟩
  · obtain ⟨b, off, spot⟩ := a
    cases len with
    | zero =>
      have e : absV W (.slice (some ⟨b, off, spot⟩) 0 cap) = .l (nb 0) 0 0 0 0 none := by unfold absV; simp only [if_pos h0]
      rw [e]
      exact .inr ⟨nb 0, 0, 0, 0, none, rfl, by simp, (s.blk 0 h0).1, fun hne => absurd rfl hne, fun i v hv => by simp at hv⟩
    | succ n =>
      have hs' : spot = none := (hE 0 (by omega)).2.1 (by omega)
      subst hs'
      have hcell : ∀ i, i < n + 1 → ∀ d y, (entV (E i).1 (E i).2.1 (E i).2.2.1 (E i).2.2.2)[d]? = some y → b < W.heap.size ∧ off + i * 4 + d < csz W b ∧ (∃ blk, h.heap.get (nb b) = some blk ∧ blk.min ≤ 0) ∧ Ev.cell h (nb b) 0 (off + i * 4 + d) = some (absV W y) :=
        fun i hi d y hy => s.cell ((hE i hi).1 d y hy)
      obtain ⟨d1, d2, d3, d4⟩ := hcell n (by omega) 3 _ rfl
      have e : absV W (.slice (some ⟨b, off, none⟩) (n + 1) cap) = .l (nb b) 0 off (n + 1) (csz W b) (some cap) := by unfold absV; simp only [if_pos (⟨d1, hl, Nat.lt_of_le_of_lt hm maxLen_lt⟩ : b < W.heap.size ∧ n + 1 ≤ cap ∧ cap < 18446744073709551616)]
      rw [e]
      refine .inr ⟨nb b, 0, off, csz W b, some cap, by rw [hL], by rw [hL]; omega, (s.blk b d1).1, fun _ => d3, fun j v hv => ?_⟩
      have hj : j < (((List.range (n + 1)).map G).flatMap entC).length := (List.getElem?_eq_some_iff.1 hv).1
      rw [fm_len entC_len, hL] at hj
      obtain ⟨i, d, rfl, hd⟩ : ∃ i d, j = i * 4 + d ∧ d < 4 := ⟨j / 4, j % 4, by omega, by omega⟩
      have hi : i < n + 1 := by omega
      rw [fm_get entC_len (by rw [hL]; exact hi) hd] at hv
      have hG : ((List.range (n + 1)).map G).getD i default = G i := by simp [List.getD, hi]
      rw [hG] at hv
      rw [← Nat.add_assoc]
      match d, hd with
      | 0, _ => have := (hcell i hi 0 _ rfl).2.2.2; rw [this, absV_str]; exact hv
      | 1, _ => exact (hcell i hi 1 _ rfl).2.2.2.trans hv
      | 2, _ => exact (hcell i hi 2 _ rfl).2.2.2.trans hv
      | 3, _ => have := (hcell i hi 3 _ rfl).2.2.2; rw [this, absV_str]; exact hv
  · obtain ⟨i, hi, rfl⟩ := List.mem_map.1 he
    rw [List.mem_range] at hi
    obtain ⟨_, _, z1, z2, z3⟩ := hE i hi
    exact ⟨⟨str_len z1, str_len z2⟩, wf_i64 z3⟩
theorem swn_abs {W : World} {h : H} {x : Value} {L : List Ent} (a : Es h (absV W x) L) : SwN 4 (absV W x) := by
  have nol : ∀ v : V, Es h v L → v ≠ .u := by
    rintro _ (⟨rfl, _⟩ | ⟨id, g, off, fin, cap, rfl, _⟩) <;> intro e <;> cases e
  have np : ∀ id g off fin, ¬ Es h (.p id g off fin) L := by
    rintro id g off fin (⟨e, _⟩ | ⟨_, _, _, _, _, e, _⟩) <;> cases e
  revert a
  unfold absV
  split
  all_goals intro a
  all_goals first
    | exact .inl rfl
    | (exfalso; rcases a with ⟨e, _⟩ | ⟨_, _, _, _, _, e, _⟩ <;> cases e; done)
    | skip
  · split at a
    · exact absurd a (np _ _ _ _)
    · exact absurd rfl (nol _ a)
  · rename_i hh
    split at a
    · rename_i hb
      rw [if_pos hb]
      exact .inr ⟨_, _, _, _, _, _, rfl, hb.2.1, fun h => absurd hb.2.2 (Nat.not_lt.2 h)⟩
    · exact absurd rfl (nol _ a)
  · split at a
    · rename_i hb
      rw [if_pos hb]
      exact .inr ⟨_, _, _, _, _, _, rfl, rfl⟩
    · exact absurd rfl (nol _ a)
structure WriF (P : Program) (t : TypeId) (fs : Array Field) : Prop where
  ut : P.underlying t = some (.struct fs)
  sz : P.cellsOf t = 3
  f0 : ∃ f, fs.toList[0]? = some f ∧ f.offset = 0 ∧ P.cellsOf f.type = 1 ∧ P.underlying f.type = some .string
  f1 : ∃ f, fs.toList[1]? = some f ∧ f.offset = 1 ∧ P.cellsOf f.type = 1 ∧ P.underlying f.type = some .bool
  f2 : ∃ f, fs.toList[2]? = some f ∧ f.offset = 2 ∧ P.cellsOf f.type = 1 ∧ P.underlying f.type = some .string
end
end Go.Ev

set_option linter.all false
namespace Go.Ev
open Go Go.RowKit Go.WideShapes Go.ChangeShapes Go.ChangeAt Go.Deep
section
variable {H' : Type} {enc : TypeId × Value → H'} {P : Program}
inductive Kd where
  | i (k : IntKind)
  | s
  | b
def Kd.ok (P : Program) (k : Kd) (t : TypeId) : Prop := match k with
  | .i k => P.underlying t = some (.int k)
  | .s => P.underlying t = some .string
  | .b => P.underlying t = some .bool
def FldOk (P : Program) (l : List Field) : Nat → List Kd → Prop
  | _, [] => True
  | n, k :: ks => (∃ f, l[n]? = some f ∧ f.offset = n ∧ P.cellsOf f.type = 1 ∧ k.ok P f.type) ∧ FldOk P l (n + 1) ks
/-- a struct whose fields are numbers, texts, bools -/
structure FlatF (P : Program) (t : TypeId) (fs : Array Field) (ks : List Kd) : Prop where
  ut : P.underlying t = some (.struct fs)
  sz : P.cellsOf t = ks.length
  fld : FldOk P fs.toList 0 ks
/-- a row of structs: c tells a struct's cells -/
theorem rows_of {α : Type} [Inhabited α] {c : α → List V} {n : Nat} {Pr : α → Prop} (hc : ∀ a, (c a).length = n) (hn : 1 ≤ n) {W : World} {h : H} (s : Start W h) (h0 : 0 < W.heap.size) {t e : TypeId} {fuel : Nat} {cs : List Value} {x : DataW H' × List MemPlace}
    (ht : P.underlying t = some (.slice e)) (sz : P.cellsOf e = n) (cell : ∀ (fuel : Nat) (cs : List Value) (x : DataW H' × List MemPlace), DataW.trod enc P W 0 (fun _ => true) true fuel e cs = some x → ∃ a, cs.map (absV W) = c a ∧ Pr a)
    (hd : DataW.trod enc P W 0 (fun _ => true) true fuel t cs = some x) : ∃ sv L, cs = [sv] ∧ Ss n c h (absV W sv) L ∧ L.length ≤ 9223372036854775807 ∧ ∀ a ∈ L, Pr a := by
  rcases open_slice ht hd with ⟨rfl, _⟩ | ⟨a, len, cap, m, nn, D, Pl, rfl, hb, hl, hm, hmm, _, hx⟩
  · exact ⟨_, [], rfl, .inl ⟨rfl, rfl⟩, by simp, fun e he => by cases he⟩
  simp only [if_true] at hmm
  rw [sz] at hx
  have hx' : ∀ i, i < len → ∃ E : α × List Value, E.2.map (absV W) = c E.1 ∧ Pr E.1 ∧ (∀ d y, E.2[d]? = some y → W.cell? ⟨a.block, a.off + i * n + d, none⟩ = some y) ∧ (0 < len → a.spot = none) := by
    intro i hi
    obtain ⟨cs', h1, h2⟩ := hx i (by omega)
    obtain ⟨z, e1, e2⟩ := cell _ _ _ h2
    have hlen' : cs'.length = n := by have := congrArg List.length e1; rwa [List.length_map, hc] at this
    obtain ⟨_, _, h3⟩ := World.cells?_some h1
    refine ⟨(z, cs'), e1, e2, fun d y hy => ?_, fun _ => ?_⟩
    · have hd : d < n := by have : d < cs'.length := (List.getElem?_eq_some_iff.1 hy).1; omega
      have hy : cs'[d]? = some y := hy
      have h4 := h3 d hd
      rw [hy] at h4
      have h5 := cell_add h4
      have e1 : (a.add (i * n)).block = a.block := by unfold Addr.add; split <;> rfl
      have e2 : (a.add (i * n)).off = a.off + i * n := by
        unfold Addr.add; split
        · rename_i hz; rw [hz]; rfl
        · rfl
      rw [e1, e2] at h5
      exact h5
    · obtain ⟨cs0, g1, g2⟩ := hx 0 (by omega)
      obtain ⟨z0, e3, _⟩ := cell _ _ _ g2
      have hl0 : cs0.length = n := by have := congrArg List.length e3; rwa [List.length_map, hc] at this
      obtain ⟨_, _, g3⟩ := World.cells?_some g1
      have g4 := g3 0 (by omega)
      rw [List.getElem?_eq_getElem (by omega)] at g4
      have g5 := World.cell?_spot g4
      unfold Addr.add at g5
      simpa using g5
  haveI : Inhabited (α × List Value) := ⟨(default, [])⟩
  obtain ⟨E, hE⟩ := choose_lt (α := α × List Value) (p := fun i r => r.2.map (absV W) = c r.1 ∧ Pr r.1 ∧ (∀ d y, r.2[d]? = some y → W.cell? ⟨a.block, a.off + i * n + d, none⟩ = some y) ∧ (0 < len → a.spot = none)) hx'
  have hL : ((List.range len).map fun i => (E i).1).length = len := by simp
  refine ⟨_, (List.range len).map fun i => (E i).1, rfl, ?_, by rw [hL]; exact maxLen_le (by omega), fun e he => ?_⟩
  · obtain ⟨b, off, spot⟩ := a
    cases len with
    | zero =>
      have e : absV W (.slice (some ⟨b, off, spot⟩) 0 cap) = .l (nb 0) 0 0 0 0 none := by unfold absV; simp only [if_pos h0]
      rw [e]
      exact .inr ⟨nb 0, 0, 0, 0, none, rfl, by simp, (s.blk 0 h0).1, fun hne => absurd rfl hne, fun i v hv => by simp at hv⟩
    | succ m =>
      have hs' : spot = none := (hE 0 (by omega)).2.2.2 (by omega)
      subst hs'
      have hcell : ∀ i, i < m + 1 → ∀ d y, (E i).2[d]? = some y → b < W.heap.size ∧ off + i * n + d < csz W b ∧ (∃ blk, h.heap.get (nb b) = some blk ∧ blk.min ≤ 0) ∧ Ev.cell h (nb b) 0 (off + i * n + d) = some (absV W y) :=
        fun i hi d y hy => s.cell ((hE i hi).2.2.1 d y hy)
      have hEl : ∀ i, i < m + 1 → (E i).2.length = n := fun i hi => by have := congrArg List.length (hE i hi).1; rwa [List.length_map, hc] at this
      obtain ⟨d1, d2, d3, d4⟩ := hcell m (by omega) (n - 1) _ (List.getElem?_eq_getElem (by rw [hEl m (by omega)]; omega))
      have e : absV W (.slice (some ⟨b, off, none⟩) (m + 1) cap) = .l (nb b) 0 off (m + 1) (csz W b) (some cap) := by unfold absV; simp only [if_pos (⟨d1, hl, Nat.lt_of_le_of_lt hm maxLen_lt⟩ : b < W.heap.size ∧ m + 1 ≤ cap ∧ cap < 18446744073709551616)]
      rw [e]
      have hmul : (m + 1) * n = m * n + n := by rw [Nat.add_mul, Nat.one_mul]
      refine .inr ⟨nb b, 0, off, csz W b, some cap, by rw [hL], by rw [hL, hmul]; omega, (s.blk b d1).1, fun _ => d3, fun j v hv => ?_⟩
      have hj : j < (((List.range (m + 1)).map fun i => (E i).1).flatMap c).length := (List.getElem?_eq_some_iff.1 hv).1
      rw [fm_len hc, hL] at hj
      obtain ⟨i, d, rfl, hd, hi⟩ : ∃ i d, j = i * n + d ∧ d < n ∧ i < m + 1 := ⟨j / n, j % n, by rw [Nat.mul_comm]; exact (Nat.div_add_mod j n).symm, Nat.mod_lt _ (by omega), Nat.div_lt_of_lt_mul (by rw [Nat.mul_comm]; exact hj)⟩
      rw [fm_get hc (by rw [hL]; exact hi) hd] at hv
      have hG : ((List.range (m + 1)).map fun i => (E i).1).getD i default = (E i).1 := by simp [List.getD, hi]
      have hy : (E i).2[d]? = some ((E i).2[d]'(by rw [hEl i hi]; exact hd)) := List.getElem?_eq_getElem _
      generalize (E i).2[d]'(by rw [hEl i hi]; exact hd) = y at hy
      rw [hG, ← (hE i hi).1] at hv
      have : ((E i).2.map (absV W)).getD d .u = absV W y := by simp [List.getD, hy]
      rw [this] at hv
      cases hv
      rw [← Nat.add_assoc]
      exact (hcell i hi d y hy).2.2.2
  · obtain ⟨i, hi, rfl⟩ := List.mem_map.1 he
    rw [List.mem_range] at hi
    exact (hE i hi).2.1
end
end Go.Ev

set_option linter.all false
namespace Go.Proofs.Ytnjgoggnhdpnoaa
open Go Go.Ev Go.RowKit Go.WideShapes Go.ChangeShapes Go.ChangeAt Go.Deep
theorem swn_absS {α : Type} {n : Nat} {c : α → List V} {W : World} {h : H} {x : Value} {L : List α} (a : Ss n c h (absV W x) L) : SwN n (absV W x) := by
  have nol : ∀ v : V, Ss n c h v L → v ≠ .u := by
    rintro _ (⟨rfl, _⟩ | ⟨id, g, off, fin, cap, rfl, _⟩) <;> intro e <;> cases e
  have np : ∀ id g off fin, ¬ Ss n c h (.p id g off fin) L := by
    rintro id g off fin (⟨e, _⟩ | ⟨_, _, _, _, _, e, _⟩) <;> cases e
  revert a
  unfold absV
  split
  all_goals intro a
  all_goals first
    | exact .inl rfl
    | (exfalso; rcases a with ⟨e, _⟩ | ⟨_, _, _, _, _, e, _⟩ <;> cases e; done)
    | skip
  · split at a
    · exact absurd a (np _ _ _ _)
    · exact absurd rfl (nol _ a)
  · rename_i hh
    split at a
    · rename_i hb
      rw [if_pos hb]
      exact .inr ⟨_, _, _, _, _, _, rfl, hb.2.1, fun h => absurd hb.2.2 (Nat.not_lt.2 h)⟩
    · exact absurd rfl (nol _ a)
  · split at a
    · rename_i hb
      rw [if_pos hb]
      exact .inr ⟨_, _, _, _, _, _, rfl, by simp⟩
    · exact absurd rfl (nol _ a)
theorem bls_of {H' : Type} {enc : TypeId × Value → H'} {P : Program} {W : World} {h : H} (s : Go.Ev.Start W h) (h0 : 0 < W.heap.size) {t e e2 : TypeId} {fs : Array Field} {fuel : Nat} {cs : List Value} {x : DataW H' × List MemPlace}
    (ht : P.underlying t = some (.slice e)) (hc : P.cellsOf e = 1) (he : P.underlying e = some (.slice e2)) (F : EntF P e2 fs)
    (hd : DataW.trod enc P W 0 (fun _ => true) true fuel t cs = some x) : ∃ (sv : Value) (R : List (List Ent)) (ks : List Bk), cs = [sv] ∧ Bls h (absV W sv) R ks ∧ R.length ≤ 9223372036854775807 ∧ ∀ a ∈ R, a.length ≤ 9223372036854775807 := by
  obtain ⟨sv, L, e1, e2, e3, e4⟩ := rows_of (α := Bk) (c := bkC) (n := 1) (Pr := fun b => Es h b.v b.l ∧ b.l.length ≤ 9223372036854775807) bkC_len (Nat.le_refl _) s h0 ht hc (fun fuel cs x hx => by
    obtain ⟨w, M, rfl, m1, m2, _⟩ := es_of s h0 he F hx
    exact ⟨⟨absV W w, M⟩, rfl, m1, m2⟩) hd
  refine ⟨sv, L.map (·.l), L, e1, ⟨e2, rfl, fun k hk => (e4 k hk).1⟩, by rw [List.length_map]; exact e3, fun a ha => ?_⟩
  obtain ⟨b, hb, rfl⟩ := List.mem_map.1 ha
  exact (e4 b hb).2
end Go.Proofs.Ytnjgoggnhdpnoaa

set_option linter.all false
namespace Go.Proofs.Ytnjgoggnhdpnoaa
open Go Go.Ev
theorem wf_all {S : List Int} (h : ∀ n ∈ S, (Lit.int .i64 n).wf = true) : ∀ n ∈ S, -9223372036854775808 ≤ n ∧ n ≤ 9223372036854775807 := fun n hn => wf_i64 (h n hn)
theorem mergeTells_l {h : H} {v u x : V} {R : List (List Ent)} {ks : List Bk} {L : List Ent} {s : Int} {S : List Int} {b : Bool} (swv : SwN 1 v) (hB : Bls h v R ks) (hl : R.length ≤ 9223372036854775807) (hl2 : ∀ a ∈ R, a.length ≤ 9223372036854775807) (swu : SwN 4 u) (hL : Es h u L) (hl3 : L.length ≤ 9223372036854775807) (h1 : -9223372036854775808 ≤ s) (h2 : s ≤ 9223372036854775807) (hS : Kl h .i64 x S) (hl4 : S.length ≤ 9223372036854775807) (hw : ∀ n ∈ S, (Lit.int .i64 n).wf = true) (hf : B.val h.floor ≤ B.val h.next) : FnOk Try.prog 3 [v, u, .i .i64 s, x, .b b] h fun y h' => y = .b true :=
  mergeTells_ok hB swv swu hl hl2 hL hl3 h1 h2 hS hl4 (wf_all hw) hf
end Go.Proofs.Ytnjgoggnhdpnoaa

namespace Go.Proofs.Ytnjgoggnhdpnoaa.mergeTells
open Go Go.Ev Go.ChangeShapes Go.WideShapes Go.ChangeAt Go.RowKit Go.ChangeMaps
set_option linter.all false
theorem own : ownKnob Try.prog.godebug = none := by kernel_rfl
theorem laid : laidOutB Try.prog = true := by kernel_rfl
theorem heap_pos {W : World} (h : W.ShapedOpen Try.prog) : 0 < W.heap.size := by
  obtain ⟨o, _, h1, _⟩ := h.2 0 (of_decide_eq_true (by kernel_rfl)) (of_decide_eq_true (by kernel_rfl))
  exact (Array.getElem?_eq_some_iff.1 h1).1
set_option maxRecDepth 100000 in
theorem isEntF : ∃ fs, EntF Try.prog 39 fs := ⟨_, (EntF.mk Try.underlying39 (by kernel_rfl) ⟨_, rfl, rfl, by kernel_rfl, Try.underlying9⟩ ⟨_, rfl, rfl, by kernel_rfl, Try.underlying3⟩ ⟨_, rfl, rfl, by kernel_rfl, Try.underlying4⟩ ⟨_, rfl, rfl, by kernel_rfl, Try.underlying9⟩)⟩
set_option maxRecDepth 100000 in
theorem run {H : Type} {enc : TypeId × Value → H} (W : World) (base : Nat) (args : Array Value) (ds : List (DataW H)) (p : List MemPlace) (hval : ∀ (j : Nat) t v, Try.f3.params[j]? = some t → args[j]? = some v → Value.okWide Try.prog W .any base t v) (hopen : W.ShapedOpen Try.prog)
    (hA : DataW.TrodAll enc Try.prog W 0 (fun _ => true) true Try.f3.params.toList args.toList ds p) : Calls Try.prog 3 args W fun e w' => e = .returned (.bool true) ∧ Below W.heap.size W w' := by
  rw [Try.params3] at hA hval
  obtain ⟨fsEntF, eF⟩ := isEntF
  obtain ⟨v0, vs0, d0, ds0, p0, q0, hargs, rfl, rfl, h0, r0⟩ := trodAll_cons hA
  obtain ⟨v1, vs1, d1, ds1, p1, q1, rfl, rfl, rfl, h1, r1⟩ := trodAll_cons r0
  obtain ⟨v2, vs2, d2, ds2, p2, q2, rfl, rfl, rfl, h2, r2⟩ := trodAll_cons r1
  obtain ⟨v3, vs3, d3, ds3, p3, q3, rfl, rfl, rfl, h3, r3⟩ := trodAll_cons r2
  obtain ⟨v4, vs4, d4, ds4, p4, q4, rfl, rfl, rfl, h4, r4⟩ := trodAll_cons r3
  obtain ⟨rfl, rfl, rfl⟩ := trodAll_nil r4
  obtain rfl : args = #[v0, v1, v2, v3, v4] := by cases args; simp_all
  obtain ⟨h, s1, s2⟩ := Go.Ev.start W
  have s : Go.Ev.Start W h := ⟨s1, s2⟩
  obtain ⟨x0, y0, z0, rfl⟩ := okWide_slice Try.underlying22 (hval 0 22 v0 rfl rfl)
  obtain ⟨fu0, hfu0⟩ := h0
  obtain ⟨u0, L0, ks0, e0, m0, l0, k0⟩ := bls_of s (heap_pos hopen) Try.underlying22 (by kernel_rfl) Try.underlying23 eF hfu0
  obtain rfl := (List.cons.inj (show [Value.slice x0 y0 z0] = [u0] from e0)).1
  obtain ⟨x1, y1, z1, rfl⟩ := okWide_slice Try.underlying23 (hval 1 23 v1 rfl rfl)
  obtain ⟨fu1, hfu1⟩ := h1
  obtain ⟨u1, L1, e1, m1, l1, k1⟩ := es_of s (heap_pos hopen) Try.underlying23 eF hfu1
  obtain rfl := (List.cons.inj (show [Value.slice x1 y1 z1] = [u1] from e1)).1
  obtain ⟨a2, rfl, rfl, rfl, w2⟩ := open_int Try.underlying3 (hval 2 3 v2 rfl rfl) h2
  obtain ⟨x3, y3, z3, rfl⟩ := okWide_slice Try.underlying24 (hval 3 24 v3 rfl rfl)
  obtain ⟨fu3, hfu3⟩ := h3
  obtain ⟨u3, L3, e3, m3, l3, k3⟩ := lk_of s (heap_pos hopen) Try.underlying24 (by kernel_rfl) Try.underlying3 hfu3
  obtain rfl := (List.cons.inj (show [Value.slice x3 y3 z3] = [u3] from e3)).1
  obtain ⟨a4, rfl, rfl, rfl⟩ := open_bool Try.underlying4 (hval 4 4 v4 rfl rfl) h4
  exact calls_true s (vs := [absV W (.slice x0 y0 z0), absV W (.slice x1 y1 z1), .i .i64 a2, absV W (.slice x3 y3 z3), .b a4]) ⟨absV_rel W _, absV_rel W _, rfl, absV_rel W _, rfl, trivial⟩ (mergeTells_l (swn_absS m0.ss) m0 l0 k0 (swn_abs m1) m1 l1 (wf_i64 w2).1 (wf_i64 w2).2 m3 l3 k3 s1.flo)
set_option maxRecDepth 100000 in
theorem lifted (os : Os) (started : os.Started) (H : Type) (enc : TypeId × Value → H) :
    ReturnsInHanded {} Try.checked os 3 .any (Rows.mergeTellsSpec.pre6 enc Try.prog Try.f3 Rows.mergeTellsRow.domain false) (Rows.mergeTellsSpec.post enc Try.prog Try.f3 false true false false) :=
  law_lifted (C := Try.checked) own started (by kernel_rfl) Try.func3
    (ChangeSpec.witness6 (enc := enc) (C := Try.checked) false ⟨#[], #[.slice none 0 0, .slice none 0 0, .int .i64 0, .slice none 0 0, .bool false], []⟩ 8 (by kernel_rfl) (by kernel_rfl) (by kernel_rfl) (by kernel_rfl))
    rfl (fun ds hd => by rw [Try.params3] at hd; match ds, hd with | [d1, d2, d3, d4, d5], _ => rfl) laid (by kernel_rfl) (by kernel_rfl) Try.underlying4 (fun W base args ds p hv ho hA => run W base args ds p hv ho hA)
theorem over : Rows.mergeTellsRow.holds Try.pinned (OpenSpec.ofChange Rows.mergeTellsSpec) :=
  OpenClaim.holds_of_wide 3 Try.f3 rfl rfl rfl rfl rfl rfl rfl ⟨rfl, rfl, rfl, rfl, rfl⟩ rfl rfl rfl rfl rfl (by kernel_rfl) Try.func3 (by kernel_rfl)
    (of_decide_eq_true (by kernel_rfl)) (by unfold Func.isWrapper; first | (rw [if_pos (by decide +kernel)]; kernel_rfl) | (rw [if_neg (by decide +kernel)]; exact ⟨rfl, rfl⟩))
    (fun os started H enc _ => lifted os started H enc)
/-- THE STATEMENT -/
theorem proved : Rows.MergeTellsSaid :=
  over
end Go.Proofs.Ytnjgoggnhdpnoaa.mergeTells
