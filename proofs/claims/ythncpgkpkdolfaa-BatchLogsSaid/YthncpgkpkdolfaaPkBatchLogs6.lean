/- Texts of ours, without what this claim does not use: NBa7 ArgR ArgW NBaL BatchLogs. No condition. -/
import Derived.Test.YthncpgkpkdolfaaPkBatchLogs5
import Derived.Test.YthncpgkpkdolfaaRows
import Derived.WalkKit
import Derived.ProofKit
import Derived.OpenShut
import Derived.ChangeMaps5
set_option maxRecDepth 100000
set_option maxHeartbeats 8000000
set_option linter.all false
namespace Go.Proofs.Ythncpgkpkdolfaa
open Go Go.Ev
/-- the row of the first k ends, counts -/
def endI (f : Nat → Nat) (k : Nat) : List V := (List.range k).map fun i => V.i .i64 (f (i + 1) : Int)
theorem endI_succ (f : Nat → Nat) (k : Nat) : endI f (k + 1) = endI f k ++ [V.i .i64 (f (k + 1) : Int)] := by unfold endI; rw [List.range_succ, List.map_append]; rfl
theorem endI_len (f : Nat → Nat) (k : Nat) : (endI f k).length = k := by unfold endI; simp
theorem endI_at {f : Nat → Nat} {k i : Nat} (h : i < k) : (endI f k).getD i .u = V.i .i64 (f (i + 1) : Int) := by unfold endI; simp [List.getD, h]
theorem batB_len {q : Nat} {L : List Wri} (h : okB12 q L = true) : (batB q L).length ≤ 600 := by
  obtain ⟨hB, h1, h2⟩ := okB12_iff.1 h
  have hrl := rowsB_len hB
  have ln := numB_len (n := (q : Int).toNat) (by omega)
  have hb : (numB (q : Int).toNat ++ rowsB L).length ≤ 509 := by rw [List.length_append]; omega
  have l2 := numB_len (n := (numB (q : Int).toNat ++ rowsB L).length) (by omega)
  unfold batB; rw [sealB_len]; omega
theorem batchLogs_ok {h : H} {v : V} {R : List (List Wri)} {ks : List Wk} {F c : Nat} {s : UInt8} (hR : Wls h v R ks) (hl : R.length ≤ 9223372036854775807) (hl2 : ∀ a ∈ R, a.length ≤ 9223372036854775807) (hF : F ≤ 65535) (hc : c ≤ 65535) (hf : B.val h.floor ≤ B.val h.next) :
    FnOk Try.prog 4 [v, .i .u16 (F : Int), .i .u16 (c : Int), .i .u8 (s.toNat : Int)] h fun y h' => y = .b true ∧ Stay nowhere h h' := by
  refine fn_go c4 (by intro hb; cases hb) (by simp) (by simp) fun Q hQ => ?_
  simp only [slotsF, Nat.reduceAdd]
  have hs0 := s.toNat_lt
  repeat' (first
    | refine St.h ?_
    | simp (disch := first | omega | (simp only [lnv]; omega)) only [wlk, ↓get_put', ↓reduceIte, seval]
    | (with_reducible (first | apply cd_split | apply gd_split)) <;> (intro hc; (try simp only [hcn] at hc); (try simp only [hc]); (try simp only [hcl] at hc); try omega))
  refine CL.pure known12 ?_
  by_cases h10 : 10 < R.length
  · have c10 : ((10 : Int) < (R.length : Int)) = True := eq_true (by omega)
    repeat' (first
      | refine St.h ?_
      | simp (disch := first | omega | (simp only [lnv]; omega)) only [wlk, ↓get_put', ↓reduceIte, seval, hR.ln, c10]
      | (with_reducible (first | apply cd_split | apply gd_split)) <;> (intro hc; (try simp only [hcn] at hc); (try simp only [hc]); (try simp only [hcl] at hc); try omega))
    subst hQ
    exact ⟨rfl, Stay.refl _ _⟩
  have c10 : ((10 : Int) < (R.length : Int)) = False := eq_false (by omega)
  by_cases h0 : R.length = 0
  · have c0 : ((R.length : Int) = 0) = True := eq_true (by omega)
    repeat' (first
      | refine St.h ?_
      | simp (disch := first | omega | (simp only [lnv]; omega)) only [wlk, ↓get_put', ↓reduceIte, seval, hR.ln, c10, c0]
      | (with_reducible (first | apply cd_split | apply gd_split)) <;> (intro hc; (try simp only [hcn] at hc); (try simp only [hc]); (try simp only [hcl] at hc); try omega))
    subst hQ
    exact ⟨rfl, Stay.refl _ _⟩
  have c0 : ((R.length : Int) = 0) = False := eq_false (by omega)
  obtain ⟨j, hj⟩ : ∃ j : Nat, (s.toNat : Int) % (2 * (R.length : Int)) = (j : Int) := ⟨((s.toNat : Int) % (2 * (R.length : Int))).toNat, by
    have := Int.emod_nonneg (s.toNat : Int) (show 2 * (R.length : Int) ≠ 0 by omega); omega⟩
  repeat' (first
    | refine St.h ?_
    | simp (disch := first | omega | (simp only [lnv]; omega)) only [wlk, ↓get_put', ↓reduceIte, seval, hR.ln, c10, c0, hj]
    | (with_reducible (first | apply cd_split | apply gd_split)) <;> (intro hc; (try simp only [hcn] at hc); (try simp only [hc]); (try simp only [hcl] at hc); try omega))
  obtain ⟨nt, hnt⟩ : ∃ nt : Nat → List Wri, nt = fun i => neatB (R.getD i []) := ⟨_, rfl⟩
  have hnt' : ∀ i, nt i = neatB (R.getD i []) := fun i => by rw [hnt]
  obtain ⟨pre, hpre⟩ : ∃ pre : Nat → List UInt8, pre = preB (sqB F j) nt 0 := ⟨_, rfl⟩
  have hps : ∀ i, pre (i + 1) = pre i ++ batB (sqB F j i) (nt i) := fun i => by rw [hpre, preB_snoc, Nat.zero_add]
  refine Ok.lp (fun m t g => ∃ (i : Nat) (v10 v11 : V), m = R.length - i ∧ i ≤ R.length ∧ get 0 t = v ∧ get 1 t = .i .u16 (F : Int) ∧ get 2 t = .i .u16 (c : Int) ∧ get 9 t = sv (pre i) ∧ get 10 t = v10 ∧ get 11 t = v11 ∧ get 12 t = .i .i64 (cntB nt i : Int) ∧ get 13 t = .i .i64 (j : Int) ∧ get 14 t = .i .i64 (i : Int) ∧ Vb g (B.val h.next) 3 v10 (endI (fun k => (pre k).length) i) ∧ Vb g (B.val h.next) 3 v11 (endI (cntB nt) i) ∧ (∀ q, isOf v10 q → ¬ isOf v11 q) ∧ (∀ q, q < i → okB12 (sqB F j q) (nt q) = true) ∧ Stay nowhere h g ∧ (pre i).length ≤ 600 * i ∧ cntB nt i ≤ 8 * i) R.length ?_ ?_
  · simp (disch := first | omega | (simp only [lnv]; omega)) only [wlk, ↓get_put', ↓reduceIte, seval]
    refine ⟨0, .l0, .l0, by omega, by omega, ?_, ?_, ?_, ?_, ?_, ?_, ?_, ?_, ?_, Vb.nil _ _ _, Vb.nil _ _ _, ?_, fun q hq => absurd hq (Nat.not_lt_zero _), Stay.refl _ _, by rw [hpre]; simp [preB], by simp [cntB]⟩
    rotate_right
    · rintro i ⟨_, _, _, _, _, e⟩; cases e
    all_goals first | trivial | rfl | (rw [hpre]; rfl)
  rintro I hI m t g ⟨i, v10, v11, rfl, hi, f0, f1, f2, f9, f10, f11, f12, f13, f14, b10, b11, dj, hok, st, hpl, hcl2⟩
  have hfg := st.fl hf
  have hRg := hR.grow st
  by_cases hil : i < R.length
  case pos =>
    obtain ⟨hrow, hsw⟩ := hRg.at hil
    have hmem : R.getD i [] ∈ R := by rw [List.getD_eq_getElem?_getD, List.getElem?_eq_getElem hil]; simp
    have hrl := hl2 _ hmem
    repeat' (first
      | refine St.h ?_
      | simp (disch := first | omega | (simp only [lnv]; omega)) only [wlk, ↓get_put', ↓reduceIte, seval, f0, f1, f2, f9, f10, f11, f12, f13, f14, hRg.ln, hRg.ix hil, hRg.ld hil, Int.toNat_natCast]
      | (with_reducible (first | apply cd_split | apply gd_split)) <;> (intro hc; (try simp only [hcn] at hc); (try simp only [hc]); (try simp only [hcl] at hc); try omega))
    refine CL.pure (few12_ok hrow hrl) ?_
    cases hfw : fewW (R.getD i []) with
    | false =>
      repeat' (first
        | refine St.h ?_
        | simp (disch := first | omega | (simp only [lnv]; omega)) only [wlk, ↓get_put', ↓reduceIte, seval]
        | (with_reducible (first | apply cd_split | apply gd_split)) <;> (intro hc; (try simp only [hcn] at hc); (try simp only [hc]); (try simp only [hcl] at hc); try omega))
      subst hQ
      exact ⟨rfl, st⟩
    | true =>
    have hl20 := fewW_len hfw
    repeat' (first
      | refine St.h ?_
      | simp (disch := first | omega | (simp only [lnv]; omega)) only [wlk, ↓get_put', ↓reduceIte, seval, f0, f1, f2, f9, f10, f11, f12, f13, f14, hRg.ln, hRg.ix hil, hRg.ld hil, Int.toNat_natCast]
      | (with_reducible (first | apply cd_split | apply gd_split)) <;> (intro hc; (try simp only [hcn] at hc); (try simp only [hc]); (try simp only [hcl] at hc); try omega))
    refine CL.mk (bneat_ok hrow hsw (by omega) (fun w hw => by have := (fewW_key hfw w hw).1; omega) hfg) ?_
    rintro u g1 ⟨hu, _, t1⟩
    have hf1 := t1.fl hfg
    rw [← hnt' i] at hu
    have hnl : (nt i).length ≤ 20 := by
      have := neatB_len (L := R.getD i []) (Nat.le_refl _)
      rw [List.take_length] at this
      rw [hnt' i]; omega
    have hsq1 : 1 ≤ sqB F j i ∧ sqB F j i ≤ 100000 := by unfold sqB; split <;> omega
    have hsq : (((0 : Int) < (j : Int)) = False ∧ ((j : Int) ≤ (i : Int)) = True ∧ (F : Int) + 1 + (i : Int) = (sqB F j i : Int)) ∨ (((0 : Int) < (j : Int)) = True ∧ ((j : Int) ≤ (i : Int)) = False ∧ (F : Int) + 1 + (i : Int) = (sqB F j i : Int)) ∨ (((0 : Int) < (j : Int)) = True ∧ ((j : Int) ≤ (i : Int)) = True ∧ (F : Int) + 1 + (i : Int) + 1 = (sqB F j i : Int)) := by
      unfold sqB
      by_cases h1 : 0 < j
      · by_cases h2 : j ≤ i
        · right; right; rw [if_pos ⟨h1, h2⟩]; exact ⟨eq_true (by omega), eq_true (by omega), by omega⟩
        · right; left; rw [if_neg (by omega)]; exact ⟨eq_true (by omega), eq_false (by omega), by omega⟩
      · left; rw [if_neg (by omega)]; exact ⟨eq_false (by omega), eq_true (by omega), by omega⟩
    rcases hsq with ⟨p1, p2, p3⟩ | ⟨p1, p2, p3⟩ | ⟨p1, p2, p3⟩
    all_goals
      repeat' (first
        | refine St.h ?_
        | simp (disch := first | omega | (simp only [lnv]; omega)) only [wlk, ↓get_put', ↓reduceIte, seval, f0, f1, f2, f9, f10, f11, f12, f13, f14, p1, p2, p3]
        | (with_reducible (first | apply cd_split | apply gd_split)) <;> (intro hc; (try simp only [hcn] at hc); (try simp only [hc]); (try simp only [hcl] at hc); try omega))
      refine CL.stay (bbytes_ok (seq := (sqB F j i : Int)) hu (by omega) (by omega) (by omega) hf1) fun g2 t2 => ?_
      have hf2 := t2.fl hf1
      have hu2 := hu.grow t2
      have st2 := (st.trans t1).trans t2
      cases ho : okB12 (sqB F j i) (nt i) with
      | false =>
        have hb : bytB (sqB F j i) (nt i) = ([], 10) := by unfold bytB; rw [ho]; rfl
        have hB : isB (nt i) = false := by
          cases hb : isB (nt i) with
          | false => rfl
          | true =>
            have : okB12 (sqB F j i) (nt i) = true := okB12_iff.2 ⟨hb, by omega, by omega⟩
            rw [ho] at this; cases this
        repeat' (first
          | refine St.h ?_
          | simp (disch := first | omega | (simp only [lnv]; omega)) only [wlk, ↓get_put', ↓reduceIte, seval, hb]
          | (with_reducible (first | apply cd_split | apply gd_split)) <;> (intro hc; (try simp only [hcn] at hc); (try simp only [hc]); (try simp only [hcl] at hc); try omega))
        refine CL.stay (ris12_ok hu2 (by omega) hf2) fun g3 t3 => ?_
        repeat' (first
          | refine St.h ?_
          | simp (disch := first | omega | (simp only [lnv]; omega)) only [wlk, ↓get_put', ↓reduceIte, seval, hB]
          | (with_reducible (first | apply cd_split | apply gd_split)) <;> (intro hc; (try simp only [hcn] at hc); (try simp only [hc]); (try simp only [hcl] at hc); try omega))
        subst hQ
        exact ⟨rfl, st2.trans t3⟩
      | true =>
        have hb : bytB (sqB F j i) (nt i) = (batB (sqB F j i) (nt i), 0) := by unfold bytB; rw [ho]; rfl
        have hbl := batB_len ho
        have hnl8 := isB_len (okB12_iff.1 ho).1
        have hpsl := congrArg List.length (hps i)
        rw [List.length_append] at hpsl
        have hcs := cntB_succ nt i
        have e9 : pre i ++ batB (sqB F j i) (nt i) = pre (i + 1) := (hps i).symm
        have e12 : (cntB nt i : Int) + ((nt i).length : Int) = (cntB nt (i + 1) : Int) := by omega
        repeat' (first
          | refine St.h ?_
          | simp (disch := first | omega | (simp only [lnv]; omega)) only [wlk, ↓get_put', ↓reduceIte, seval, f0, f1, f2, f9, f10, f11, f12, f13, f14, hb, hu2.ln, e9, e12]
          | (with_reducible (first | apply cd_split | apply gd_split)) <;> (intro hc; (try simp only [hcn] at hc); (try simp only [hc]); (try simp only [hcl] at hc); try omega))
        have b10 := (b10.grow t1).grow t2
        have b11 := (b11.grow t1).grow t2
        have hb11 : ∀ q, isOf v11 q → B.val q < B.val g2.next := fun q hq => (b11.buf.own hq).2
        refine AL.push (y := .i .i64 ((pre (i + 1)).length : Int)) b10 (fun u => by simp (disch := first | omega | (simp only [lnv]; omega)) only [wlk, ↓get_put', ↓reduceIte, seval, f10]) rfl rfl hf2 st2.next (by rw [endI_len]; omega) fun v10' g3 w1 hw1 t3 o1 _ => ?_
        have hf3 := t3.fl hf2
        have b11 := b11.stay t3 fun q hq e => dj q e hq
        have st3 := st2.past' t3 fun q hq => b10.own q hq
        repeat' (first
          | refine St.h ?_
          | simp (disch := first | omega | (simp only [lnv]; omega)) only [wlk, ↓get_put', ↓reduceIte, seval, f0, f1, f2, f9, f10, f11, f12, f13, f14, e9, e12]
          | (with_reducible (first | apply cd_split | apply gd_split)) <;> (intro hc; (try simp only [hcn] at hc); (try simp only [hc]); (try simp only [hcl] at hc); try omega))
        refine AL.push (y := .i .i64 (cntB nt (i + 1) : Int)) b11 (fun u => by simp (disch := first | omega | (simp only [lnv]; omega)) only [wlk, ↓get_put', ↓reduceIte, seval, f11]) rfl rfl hf3 st3.next (by rw [endI_len]; omega) fun v11' g4 w2 hw2 t4 o2 _ => ?_
        have dj2 : ∀ q, isOf v10' q → ¬ isOf v11 q := fun q hq e => by
          rcases o1 q hq with h3 | h3
          · exact dj q h3 e
          · have h4 := ((hb11 q e)); omega
        have b10' := hw1.stay t4 dj2
        have l10 : ∀ q, isOf v10' q → B.val q < B.val g3.next := fun q hq => (hw1.buf.own hq).2
        have st4 := st3.past' t4 fun q hq => b11.own q hq
        repeat' (first
          | refine St.h ?_
          | simp (disch := first | omega | (simp only [lnv]; omega)) only [wlk, ↓get_put', ↓reduceIte, seval, f0, f1, f2, f9, f10, f11, f12, f13, f14, e9, e12]
          | (with_reducible (first | apply cd_split | apply gd_split)) <;> (intro hc; (try simp only [hcn] at hc); (try simp only [hc]); (try simp only [hcl] at hc); try omega))
        refine lp_next hI (R.length - (i + 1)) (by omega) ⟨i + 1, v10', v11', rfl, by omega, ?_, ?_, ?_, ?_, ?_, ?_, ?_, ?_, ?_, by rw [endI_succ]; exact b10', by rw [endI_succ]; exact hw2, fun q hq e => ?_, fun q hq => ?_, st4, by omega, by omega⟩
        · simp (disch := first | omega | (simp only [lnv]; omega)) only [wlk, ↓get_put', ↓reduceIte, seval, f0]
        · simp (disch := first | omega | (simp only [lnv]; omega)) only [wlk, ↓get_put', ↓reduceIte, seval, f1]
        · simp (disch := first | omega | (simp only [lnv]; omega)) only [wlk, ↓get_put', ↓reduceIte, seval, f2]
        · simp (disch := first | omega | (simp only [lnv]; omega)) only [wlk, ↓get_put', ↓reduceIte, seval]
        · simp (disch := first | omega | (simp only [lnv]; omega)) only [wlk, ↓get_put', ↓reduceIte, seval]
        · simp (disch := first | omega | (simp only [lnv]; omega)) only [wlk, ↓get_put', ↓reduceIte, seval]
        · simp (disch := first | omega | (simp only [lnv]; omega)) only [wlk, ↓get_put', ↓reduceIte, seval]
        · simp (disch := first | omega | (simp only [lnv]; omega)) only [wlk, ↓get_put', ↓reduceIte, seval, f13]
        · simp (disch := first | omega | (simp only [lnv]; omega)) only [wlk, ↓get_put', ↓reduceIte, seval]; rfl
        · rcases o2 q e with h3 | h3
          · exact dj2 q hq h3
          · have := l10 q hq; omega
        · by_cases e : q = i
          · rw [e]; exact ho
          · exact hok q (by omega)
  obtain rfl : i = R.length := by omega
  have hw := whB_le j R.length
  have hpos : 1 ≤ whB j R.length := by unfold whB; split <;> omega
  obtain ⟨W, hW⟩ : ∃ W, whB j R.length = W := ⟨_, rfl⟩
  have hA := logs_all (F := F) (j := j) (n := R.length) (nt := nt) (by omega) hok
  rw [← hpre, hW] at hA
  rw [hW] at hw hpos
  have hwc : ∃ X : Int, X = (W : Int) ∧ ((((0 : Int) < (j : Int)) = False ∧ ((j : Int) < (R.length : Int)) = True ∧ (R.length : Int) = X) ∨ (((0 : Int) < (j : Int)) = True ∧ ((j : Int) < (R.length : Int)) = False ∧ (R.length : Int) = X) ∨ (((0 : Int) < (j : Int)) = True ∧ ((j : Int) < (R.length : Int)) = True ∧ (j : Int) = X)) := by
    refine ⟨(W : Int), rfl, ?_⟩
    have hW' := hW
    unfold whB at hW'
    by_cases h1 : 0 < j
    · by_cases h2 : j < R.length
      · right; right; rw [if_pos ⟨h1, h2⟩] at hW'; exact ⟨eq_true (by omega), eq_true (by omega), by omega⟩
      · right; left; rw [if_neg (by omega)] at hW'; exact ⟨eq_true (by omega), eq_false (by omega), by omega⟩
    · left; rw [if_neg (by omega)] at hW'; exact ⟨eq_false (by omega), eq_true (by omega), by omega⟩
  have hpn := preB_ge (sqB F j) nt 0 R.length
  rw [← hpre] at hpn
  have le10 := endI_len (fun k => (pre k).length) R.length
  have le11 := endI_len (cntB nt) R.length
  have eW : ((W : Int) - 1).toNat = W - 1 := by omega
  have at10 : ∀ {q : Nat}, q < R.length → (endI (fun k => (pre k).length) R.length).getD q .u = .i .i64 ((pre (q + 1)).length : Int) := fun hq => endI_at hq
  have at11 : ∀ {q : Nat}, q < R.length → (endI (cntB nt) R.length).getD q .u = .i .i64 (cntB nt (q + 1) : Int) := fun hq => endI_at hq
  have at10W : (endI (fun k => (pre k).length) R.length).getD (W - 1) .u = .i .i64 ((pre W).length : Int) := by rw [at10 (by omega), Nat.sub_add_cancel hpos]
  have at11W : (endI (cntB nt) R.length).getD (W - 1) .u = .i .i64 (cntB nt W : Int) := by rw [at11 (by omega), Nat.sub_add_cancel hpos]
  have hcW : cntB nt W ≤ 8 * R.length := by
    have : ∀ a b, a ≤ b → cntB nt a ≤ cntB nt b := fun a b hab => by
      induction b with
      | zero => rw [Nat.le_zero.1 hab]; exact Nat.le_refl _
      | succ b ih =>
        by_cases e : a = b + 1
        · rw [e]; exact Nat.le_refl _
        · rw [cntB_succ]; have := ih (by omega); omega
    have := this W R.length hw
    omega
  have hpW : (pre W).length ≤ (pre R.length).length := by rw [hpre]; exact preB_mono _ _ hw
  obtain ⟨d, hd, hdl⟩ : ∃ d : Nat, (c : Int) % ((pre R.length).length : Int) = (d : Int) ∧ d < (pre R.length).length := by
    have h5 := Int.emod_lt_of_pos (c : Int) (show (0 : Int) < ((pre R.length).length : Int) by omega)
    have h6 := Int.emod_nonneg (c : Int) (show ((pre R.length).length : Int) ≠ 0 by omega)
    exact ⟨((c : Int) % ((pre R.length).length : Int)).toNat, by omega, by omega⟩
  obtain ⟨hA1, hA2, hA3⟩ := hA
  have hA2 : (logB (pre R.length)).2.1 = (F : Int) + (W : Int) := by rw [hA2]; omega
  obtain ⟨X, hX, hwc⟩ := hwc
  subst hX
  rcases hwc with ⟨p1, p2, p3⟩ | ⟨p1, p2, p3⟩ | ⟨p1, p2, p3⟩
  all_goals
    repeat' (first
      | refine St.h ?_
      | simp (disch := first | omega | (simp only [lnv]; omega)) only [wlk, ↓get_put', ↓reduceIte, seval, f0, f1, f2, f9, f10, f11, f12, f13, f14, hRg.ln, p1, p2]
      | (with_reducible (first | apply cd_split | apply gd_split)) <;> (intro hc; (try simp only [hcn] at hc); (try simp only [hc]); (try simp only [hcl] at hc); try omega))
    refine CL.mk (blog_ok (s := pre R.length) (by omega) hfg) ?_
    rintro _ h1 ⟨u, rfl, hu, _, t1⟩
    have hf1 := t1.fl hfg
    have b10 := b10.grow t1
    have b11 := b11.grow t1
    have l10 := b10.lst
    have l11 := b11.lst
    have st1 := st.trans t1
    repeat' (first
      | refine St.h ?_
      | simp (disch := first | omega | (simp only [lnv]; omega)) only [wlk, ↓get_put', ↓reduceIte, seval, f0, f1, f2, f9, f10, f11, f12, f13, f14, hu.ln, hA1, hA2, hA3, p3, eW, l10.ix, l10.ld, l11.ix, l11.ld, at10W, at11W, Int.toNat_natCast, hd]
      | (with_reducible (first | apply cd_split | apply gd_split)) <;> (intro hc; (try simp only [hcn] at hc); (try simp only [hc]); (try simp only [hcl] at hc); try omega))
    refine Ok.lp (fun m t g' => ∃ (a : Nat), m = W - a ∧ a ≤ W ∧ (pre a).length ≤ d ∧ get 1 t = .i .u16 (F : Int) ∧ get 9 t = sv (pre R.length) ∧ get 10 t = v10 ∧ get 11 t = v11 ∧ get 19 t = .i .i64 (W : Int) ∧ get 23 t = .i .i64 (d : Int) ∧ get 24 t = .i .i64 (a : Int) ∧ h1 = g') W ?_ ?_
    · simp (disch := first | omega | (simp only [lnv]; omega)) only [wlk, ↓get_put', ↓reduceIte, seval, f1, f9, f10, f11, p3, hd, Int.toNat_natCast]
      refine ⟨0, by omega, by omega, by rw [hpre]; simp [preB], ?_, ?_, ?_, ?_, ?_, ?_, ?_, trivial⟩ <;> first | trivial | rfl | (simp only [p3]; done) | (simp (disch := first | omega | (simp only [lnv]; omega)) only [wlk, ↓get_put', ↓reduceIte, seval, f1, f9, f10, f11, p3, hd, Int.toNat_natCast])
    clear f0 f1 f2 f9 f10 f11 f12 f13 f14 hI
    rintro J hJ m t' g' ⟨a, rfl, ha, hpa, f1, f9, f10, f11, f19, f23, f24, rfl⟩
    have hend : (¬ (a < W ∧ (pre (a + 1)).length ≤ d)) → a < W → d < (preB (sqB F j) nt 0 (a + 1)).length := fun h2 h3 => by rw [← hpre]; omega
    have ha10 : a < W → (endI (fun k => (pre k).length) R.length).getD a .u = .i .i64 ((pre (a + 1)).length : Int) := fun h3 => at10 (by omega)
    by_cases hx : a < W ∧ (pre (a + 1)).length ≤ d
    · have hax := hx.1
      have haw : ((a : Int) < (W : Int)) = True := eq_true (by omega)
      have hpd : (((pre (a + 1)).length : Int) ≤ (d : Int)) = True := eq_true (by omega)
      have ha10 := ha10 hax
      repeat' (first
        | refine St.h ?_
        | simp (disch := first | omega | (simp only [lnv]; omega)) only [wlk, ↓get_put', ↓reduceIte, seval, f1, f9, f10, f11, f19, f23, f24, haw, hpd, l10.ix, l10.ld, ha10, Int.toNat_natCast]
        | (with_reducible (first | apply cd_split | apply gd_split)) <;> (intro hc; (try simp only [hcn] at hc); (try simp only [hc]); (try simp only [hcl] at hc); try omega))
      refine lp_next hJ (W - (a + 1)) (by omega) ⟨a + 1, rfl, by omega, hx.2, ?_, ?_, ?_, ?_, ?_, ?_, ?_, rfl⟩
      · simp (disch := first | omega | (simp only [lnv]; omega)) only [wlk, ↓get_put', ↓reduceIte, seval, f1]
      · simp (disch := first | omega | (simp only [lnv]; omega)) only [wlk, ↓get_put', ↓reduceIte, seval, f9]
      · simp (disch := first | omega | (simp only [lnv]; omega)) only [wlk, ↓get_put', ↓reduceIte, seval, f10]
      · simp (disch := first | omega | (simp only [lnv]; omega)) only [wlk, ↓get_put', ↓reduceIte, seval, f11]
      · simp (disch := first | omega | (simp only [lnv]; omega)) only [wlk, ↓get_put', ↓reduceIte, seval, f19]
      · simp (disch := first | omega | (simp only [lnv]; omega)) only [wlk, ↓get_put', ↓reduceIte, seval, f23]
      · simp (disch := first | omega | (simp only [lnv]; omega)) only [wlk, ↓get_put', ↓reduceIte, seval]; rfl
    · have hC := logs_cut (F := F) (j := j) (n := R.length) (at' := a) (c := d) (nt := nt) (by omega) hok (by rw [← hpre]; exact hdl) (by rw [hW]; exact ha) (by rw [← hpre]; exact hpa) (fun h3 => hend hx (by rw [hW] at h3; exact h3))
      rw [← hpre] at hC
      obtain ⟨hC1, hC2, hC3⟩ := hC
      have htk : ((pre R.length).take d).length = d := by rw [List.length_take]; omega
      have hcase : (((a : Int) < (W : Int)) = False ∧ True) ∨ (((a : Int) < (W : Int)) = True ∧ a < W ∧ (((pre (a + 1)).length : Int) ≤ (d : Int)) = False) := by
        by_cases h3 : a < W
        · right; exact ⟨eq_true (by omega), h3, eq_false (by omega)⟩
        · left; exact ⟨eq_false (by omega), trivial⟩
      rcases hcase with ⟨c1, _⟩ | ⟨c1, c2, c3⟩
      · repeat' (first
          | refine St.h ?_
          | simp (disch := first | omega | (simp only [lnv]; omega)) only [wlk, ↓get_put', ↓reduceIte, seval, f1, f9, f10, f11, f19, f23, f24, c1, Int.toNat_natCast]
          | (with_reducible (first | apply cd_split | apply gd_split)) <;> (intro hc; (try simp only [hcn] at hc); (try simp only [hc]); (try simp only [hcl] at hc); try omega))
        refine CL.mk (blog_ok (s := (pre R.length).take d) (by omega) hf1) ?_
        rintro _ h5 ⟨u5, rfl, hu5, _, t5⟩
        have l10' := (b10.grow t5).lst
        have l11' := (b11.grow t5).lst
        by_cases h0a : a = 0
        · have ca : ((a : Int) = 0) = True := eq_true (by omega)
          have y1 : (((logB ((pre R.length).take d)).1.length : Int) = 0) = True := eq_true (by rw [hC1, h0a]; rfl)
          have y2 : ((logB ((pre R.length).take d)).2.1 = 0) = True := eq_true (by rw [hC2, if_pos h0a])
          have y3 : (((logB ((pre R.length).take d)).2.2 : Int) = 0) = True := eq_true (by rw [hC3, h0a, hpre]; rfl)
          repeat' (first
            | refine St.h ?_
            | simp (disch := first | omega | (simp only [lnv]; omega)) only [wlk, ↓get_put', ↓reduceIte, seval, f1, f9, f10, f11, f19, f23, f24, ca, hu5.ln, y1, y2, y3]
            | (with_reducible (first | apply cd_split | apply gd_split)) <;> (intro hc; (try simp only [hcn] at hc); (try simp only [hc]); (try simp only [hcl] at hc); try omega))
          subst hQ
          exact ⟨rfl, st1.trans t5⟩
        · have ca : ((a : Int) = 0) = False := eq_false (by omega)
          have eA : ((a : Int) - 1).toNat = a - 1 := by omega
          have at10a : (endI (fun k => (pre k).length) R.length).getD (a - 1) .u = .i .i64 ((pre a).length : Int) := by rw [at10 (by omega), Nat.sub_add_cancel (by omega)]
          have at11a : (endI (cntB nt) R.length).getD (a - 1) .u = .i .i64 (cntB nt a : Int) := by rw [at11 (by omega), Nat.sub_add_cancel (by omega)]
          have y2 : (logB ((pre R.length).take d)).2.1 = (F : Int) + (a : Int) := by rw [hC2, if_neg h0a]; omega
          have y3 : (logB ((pre R.length).take d)).2.2 = (pre a).length := by rw [hC3, hpre]
          repeat' (first
            | refine St.h ?_
            | simp (disch := first | omega | (simp only [lnv]; omega)) only [wlk, ↓get_put', ↓reduceIte, seval, f1, f9, f10, f11, f19, f23, f24, ca, hu5.ln, hC1, y2, y3, eA, l10'.ix, l10'.ld, l11'.ix, l11'.ld, at10a, at11a]
            | (with_reducible (first | apply cd_split | apply gd_split)) <;> (intro hc; (try simp only [hcn] at hc); (try simp only [hc]); (try simp only [hcl] at hc); try omega))
          subst hQ
          exact ⟨rfl, st1.trans t5⟩
      · have ha10 := ha10 c2
        repeat' (first
          | refine St.h ?_
          | simp (disch := first | omega | (simp only [lnv]; omega)) only [wlk, ↓get_put', ↓reduceIte, seval, f1, f9, f10, f11, f19, f23, f24, c1, c3, l10.ix, l10.ld, ha10, Int.toNat_natCast]
          | (with_reducible (first | apply cd_split | apply gd_split)) <;> (intro hc; (try simp only [hcn] at hc); (try simp only [hc]); (try simp only [hcl] at hc); try omega))
        refine CL.mk (blog_ok (s := (pre R.length).take d) (by omega) hf1) ?_
        rintro _ h5 ⟨u5, rfl, hu5, _, t5⟩
        have l10' := (b10.grow t5).lst
        have l11' := (b11.grow t5).lst
        by_cases h0a : a = 0
        · have ca : ((a : Int) = 0) = True := eq_true (by omega)
          have y1 : (((logB ((pre R.length).take d)).1.length : Int) = 0) = True := eq_true (by rw [hC1, h0a]; rfl)
          have y2 : ((logB ((pre R.length).take d)).2.1 = 0) = True := eq_true (by rw [hC2, if_pos h0a])
          have y3 : (((logB ((pre R.length).take d)).2.2 : Int) = 0) = True := eq_true (by rw [hC3, h0a, hpre]; rfl)
          repeat' (first
            | refine St.h ?_
            | simp (disch := first | omega | (simp only [lnv]; omega)) only [wlk, ↓get_put', ↓reduceIte, seval, f1, f9, f10, f11, f19, f23, f24, ca, hu5.ln, y1, y2, y3]
            | (with_reducible (first | apply cd_split | apply gd_split)) <;> (intro hc; (try simp only [hcn] at hc); (try simp only [hc]); (try simp only [hcl] at hc); try omega))
          subst hQ
          exact ⟨rfl, st1.trans t5⟩
        · have ca : ((a : Int) = 0) = False := eq_false (by omega)
          have eA : ((a : Int) - 1).toNat = a - 1 := by omega
          have at10a : (endI (fun k => (pre k).length) R.length).getD (a - 1) .u = .i .i64 ((pre a).length : Int) := by rw [at10 (by omega), Nat.sub_add_cancel (by omega)]
          have at11a : (endI (cntB nt) R.length).getD (a - 1) .u = .i .i64 (cntB nt a : Int) := by rw [at11 (by omega), Nat.sub_add_cancel (by omega)]
          have y2 : (logB ((pre R.length).take d)).2.1 = (F : Int) + (a : Int) := by rw [hC2, if_neg h0a]; omega
          have y3 : (logB ((pre R.length).take d)).2.2 = (pre a).length := by rw [hC3, hpre]
          repeat' (first
            | refine St.h ?_
            | simp (disch := first | omega | (simp only [lnv]; omega)) only [wlk, ↓get_put', ↓reduceIte, seval, f1, f9, f10, f11, f19, f23, f24, ca, hu5.ln, hC1, y2, y3, eA, l10'.ix, l10'.ld, l11'.ix, l11'.ld, at10a, at11a]
            | (with_reducible (first | apply cd_split | apply gd_split)) <;> (intro hc; (try simp only [hcn] at hc); (try simp only [hc]); (try simp only [hcl] at hc); try omega))
          subst hQ
          exact ⟨rfl, st1.trans t5⟩
end Go.Proofs.Ythncpgkpkdolfaa

set_option linter.all false
namespace Go.Ev
open Go Go.RowKit Go.WideShapes Go.ChangeShapes Go.ChangeAt Go.Deep
section
variable {H' : Type} {enc : TypeId × Value → H'} {P : Program}
inductive Kd where
  | i (k : IntKind)
  | s
  | b
def Kd.ok (P : Program) (k : Kd) (t : TypeId) : Prop := match k with
  | .i k => P.underlying t = some (.int k)
  | .s => P.underlying t = some .string
  | .b => P.underlying t = some .bool
def FldOk (P : Program) (l : List Field) : Nat → List Kd → Prop
  | _, [] => True
  | n, k :: ks => (∃ f, l[n]? = some f ∧ f.offset = n ∧ P.cellsOf f.type = 1 ∧ k.ok P f.type) ∧ FldOk P l (n + 1) ks
/-- a struct whose fields are numbers, texts, bools -/
structure FlatF (P : Program) (t : TypeId) (fs : Array Field) (ks : List Kd) : Prop where
  ut : P.underlying t = some (.struct fs)
  sz : P.cellsOf t = ks.length
  fld : FldOk P fs.toList 0 ks
def Kd.fit (k : Kd) (c : Value) : Prop := match k with
  | .i k => ∃ n, c = .int k n ∧ (Lit.int k n).wf = true
  | .s => ∃ s : ByteArray, c = .string s ∧ s.size ≤ maxLen
  | .b => ∃ q, c = .bool q
def Fits : List Kd → List Value → Prop
  | [], cs => cs = []
  | k :: ks, cs => ∃ c r, cs = c :: r ∧ k.fit c ∧ Fits ks r
theorem flat_fits {W : World} {t : TypeId} {fs : Array Field} {ks : List Kd} {fuel : Nat} {cs : List Value} {x : DataW H' × List MemPlace} (F : FlatF P t fs ks) (hd : DataW.trod enc P W 0 (fun _ => true) true fuel t cs = some x) : Fits ks cs := by
  have hf : cs.length = ks.length ∧ ∀ (i : Nat) f, fs.toList[i]? = some f → ∃ n y, DataW.trod enc P W 0 (fun _ => true) true n f.type ((cs.drop f.offset).take (P.cellsOf f.type)) = some y := by
    cases fuel with
    | zero => simp [DataW.trod] at hd
    | succ n =>
      unfold DataW.trod at hd
      rw [F.ut] at hd
      simp only at hd
      split at hd
      · rename_i hl
        refine ⟨hl.trans F.sz, fun i f hf => ?_⟩
        rw [Option.map_eq_some_iff] at hd
        obtain ⟨xs, hx, _⟩ := hd
        have := mapM_some_get hx i f hf
        have hlen := mapM_some_length hx
        have hi : i < xs.length := by rw [hlen]; exact (List.getElem?_eq_some_iff.1 hf).1
        exact ⟨n, xs[i], by rw [this]; simp⟩
      · cases hd
  obtain ⟨hl, hf⟩ := hf
  have go : ∀ (ks : List Kd) (n : Nat), FldOk P fs.toList n ks → cs.length = n + ks.length → Fits ks (cs.drop n) := by
    intro ks
    induction ks with
    | nil => intro n _ e; exact List.drop_eq_nil_of_le (by rw [e]; exact Nat.le_refl _)
    | cons k ks ih =>
      rintro n ⟨⟨f, g, o, c, u⟩, hr⟩ e
      have hlt : n < cs.length := by rw [e, List.length_cons]; omega
      have hc : cs.drop n = cs[n] :: cs.drop (n + 1) := List.drop_eq_getElem_cons hlt
      obtain ⟨m, y, h⟩ := hf n f g
      rw [o, c, hc] at h
      refine ⟨cs[n], cs.drop (n + 1), hc, ?_, ih (n + 1) hr (by rw [e, List.length_cons]; omega)⟩
      cases k with
      | i kd =>
        obtain ⟨z, e1, _, z1⟩ := DataW.trod_int u h
        exact ⟨z, (List.cons.inj e1).1, z1⟩
      | s =>
        obtain ⟨z, e1, _, z1⟩ := DataW.trod_string u h
        exact ⟨z, (List.cons.inj e1).1, z1⟩
      | b =>
        obtain ⟨z, e1, _⟩ := DataW.trod_bool u h
        exact ⟨z, (List.cons.inj e1).1⟩
  have := go ks 0 F.fld (by rw [hl, Nat.zero_add])
  rwa [List.drop_zero] at this
theorem absV_bool (W : World) (q : Bool) : absV W (.bool q) = .b q := by unfold absV; rfl
/-- a row of structs: c tells a struct's cells -/
theorem rows_of {α : Type} [Inhabited α] {c : α → List V} {n : Nat} {Pr : α → Prop} (hc : ∀ a, (c a).length = n) (hn : 1 ≤ n) {W : World} {h : H} (s : Start W h) (h0 : 0 < W.heap.size) {t e : TypeId} {fuel : Nat} {cs : List Value} {x : DataW H' × List MemPlace}
    (ht : P.underlying t = some (.slice e)) (sz : P.cellsOf e = n) (cell : ∀ (fuel : Nat) (cs : List Value) (x : DataW H' × List MemPlace), DataW.trod enc P W 0 (fun _ => true) true fuel e cs = some x → ∃ a, cs.map (absV W) = c a ∧ Pr a)
    (hd : DataW.trod enc P W 0 (fun _ => true) true fuel t cs = some x) : ∃ sv L, cs = [sv] ∧ Ss n c h (absV W sv) L ∧ L.length ≤ 9223372036854775807 ∧ ∀ a ∈ L, Pr a := by
  rcases open_slice ht hd with ⟨rfl, _⟩ | ⟨a, len, cap, m, nn, D, Pl, rfl, hb, hl, hm, hmm, _, hx⟩
  · exact ⟨_, [], rfl, .inl ⟨rfl, rfl⟩, by simp, fun e he => by cases he⟩
  simp only [if_true] at hmm
  rw [sz] at hx
  have hx' : ∀ i, i < len → ∃ E : α × List Value, E.2.map (absV W) = c E.1 ∧ Pr E.1 ∧ (∀ d y, E.2[d]? = some y → W.cell? ⟨a.block, a.off + i * n + d, none⟩ = some y) ∧ (0 < len → a.spot = none) := by
    intro i hi
    obtain ⟨cs', h1, h2⟩ := hx i (by omega)
    obtain ⟨z, e1, e2⟩ := cell _ _ _ h2
    have hlen' : cs'.length = n := by have := congrArg List.length e1; rwa [List.length_map, hc] at this
    obtain ⟨_, _, h3⟩ := World.cells?_some h1
    refine ⟨(z, cs'), e1, e2, fun d y hy => ?_, fun _ => ?_⟩
    · have hd : d < n := by have : d < cs'.length := (List.getElem?_eq_some_iff.1 hy).1; omega
      have hy : cs'[d]? = some y := hy
      have h4 := h3 d hd
      rw [hy] at h4
      have h5 := cell_add h4
      have e1 : (a.add (i * n)).block = a.block := by unfold Addr.add; split <;> rfl
      have e2 : (a.add (i * n)).off = a.off + i * n := by
        unfold Addr.add; split
        · rename_i hz; rw [hz]; rfl
        · rfl
      rw [e1, e2] at h5
      exact h5
    · obtain ⟨cs0, g1, g2⟩ := hx 0 (by omega)
      obtain ⟨z0, e3, _⟩ := cell _ _ _ g2
      have hl0 : cs0.length = n := by have := congrArg List.length e3; rwa [List.length_map, hc] at this
      obtain ⟨_, _, g3⟩ := World.cells?_some g1
      have g4 := g3 0 (by omega)
      rw [List.getElem?_eq_getElem (by omega)] at g4
      have g5 := World.cell?_spot g4
      unfold Addr.add at g5
      simpa using g5
  haveI : Inhabited (α × List Value) := ⟨(default, [])⟩
  obtain ⟨E, hE⟩ := choose_lt (α := α × List Value) (p := fun i r => r.2.map (absV W) = c r.1 ∧ Pr r.1 ∧ (∀ d y, r.2[d]? = some y → W.cell? ⟨a.block, a.off + i * n + d, none⟩ = some y) ∧ (0 < len → a.spot = none)) hx'
  have hL : ((List.range len).map fun i => (E i).1).length = len := by simp
  refine ⟨_, (List.range len).map fun i => (E i).1, rfl, ?_, by rw [hL]; exact maxLen_le (by omega), fun e he => ?_⟩
  · obtain ⟨b, off, spot⟩ := a
    cases len with
    | zero =>
      have e : absV W (.slice (some ⟨b, off, spot⟩) 0 cap) = .l (nb 0) 0 0 0 0 none := by unfold absV; simp only [if_pos h0]
      rw [e]
      exact .inr ⟨nb 0, 0, 0, 0, none, rfl, by simp, (s.blk 0 h0).1, fun hne => absurd rfl hne, fun i v hv => by simp at hv⟩
    | succ m =>
      have hs' : spot = none := (hE 0 (by omega)).2.2.2 (by omega)
      subst hs'
      have hcell : ∀ i, i < m + 1 → ∀ d y, (E i).2[d]? = some y → b < W.heap.size ∧ off + i * n + d < csz W b ∧ (∃ blk, h.heap.get (nb b) = some blk ∧ blk.min ≤ 0) ∧ Ev.cell h (nb b) 0 (off + i * n + d) = some (absV W y) :=
        fun i hi d y hy => s.cell ((hE i hi).2.2.1 d y hy)
      have hEl : ∀ i, i < m + 1 → (E i).2.length = n := fun i hi => by have := congrArg List.length (hE i hi).1; rwa [List.length_map, hc] at this
      obtain ⟨d1, d2, d3, d4⟩ := hcell m (by omega) (n - 1) _ (List.getElem?_eq_getElem (by rw [hEl m (by omega)]; omega))
      have e : absV W (.slice (some ⟨b, off, none⟩) (m + 1) cap) = .l (nb b) 0 off (m + 1) (csz W b) (some cap) := by unfold absV; simp only [if_pos (⟨d1, hl, Nat.lt_of_le_of_lt hm maxLen_lt⟩ : b < W.heap.size ∧ m + 1 ≤ cap ∧ cap < 18446744073709551616)]
      rw [e]
      have hmul : (m + 1) * n = m * n + n := by rw [Nat.add_mul, Nat.one_mul]
      refine .inr ⟨nb b, 0, off, csz W b, some cap, by rw [hL], by rw [hL, hmul]; omega, (s.blk b d1).1, fun _ => d3, fun j v hv => ?_⟩
      have hj : j < (((List.range (m + 1)).map fun i => (E i).1).flatMap c).length := (List.getElem?_eq_some_iff.1 hv).1
      rw [fm_len hc, hL] at hj
      obtain ⟨i, d, rfl, hd, hi⟩ : ∃ i d, j = i * n + d ∧ d < n ∧ i < m + 1 := ⟨j / n, j % n, by rw [Nat.mul_comm]; exact (Nat.div_add_mod j n).symm, Nat.mod_lt _ (by omega), Nat.div_lt_of_lt_mul (by rw [Nat.mul_comm]; exact hj)⟩
      rw [fm_get hc (by rw [hL]; exact hi) hd] at hv
      have hG : ((List.range (m + 1)).map fun i => (E i).1).getD i default = (E i).1 := by simp [List.getD, hi]
      have hy : (E i).2[d]? = some ((E i).2[d]'(by rw [hEl i hi]; exact hd)) := List.getElem?_eq_getElem _
      generalize (E i).2[d]'(by rw [hEl i hi]; exact hd) = y at hy
      rw [hG, ← (hE i hi).1] at hv
      have : ((E i).2.map (absV W)).getD d .u = absV W y := by simp [List.getD, hy]
      rw [this] at hv
      cases hv
      rw [← Nat.add_assoc]
      exact (hcell i hi d y hy).2.2.2
  · obtain ⟨i, hi, rfl⟩ := List.mem_map.1 he
    rw [List.mem_range] at hi
    exact (hE i hi).2.1
end
end Go.Ev

set_option linter.all false
namespace Go.Proofs.Ythncpgkpkdolfaa
open Go Go.Ev Go.RowKit Go.WideShapes Go.ChangeShapes Go.ChangeAt Go.Deep
theorem swn_absW {W : World} {h : H} {x : Value} {L : List Wri} (a : Ws h (absV W x) L) : SwN 3 (absV W x) := by
  have nol : ∀ v : V, Ws h v L → v ≠ .u := by
    rintro _ (⟨rfl, _⟩ | ⟨id, g, off, fin, cap, rfl, _⟩) <;> intro e <;> cases e
  have np : ∀ id g off fin, ¬ Ws h (.p id g off fin) L := by
    rintro id g off fin (⟨e, _⟩ | ⟨_, _, _, _, _, e, _⟩) <;> cases e
  revert a
  unfold absV
  split
  all_goals intro a
  all_goals first
    | exact .inl rfl
    | (exfalso; rcases a with ⟨e, _⟩ | ⟨_, _, _, _, _, e, _⟩ <;> cases e; done)
    | skip
  · split at a
    · exact absurd a (np _ _ _ _)
    · exact absurd rfl (nol _ a)
  · rename_i hh
    split at a
    · rename_i hb
      rw [if_pos hb]
      exact .inr ⟨_, _, _, _, _, _, rfl, hb.2.1, fun h => absurd hb.2.2 (Nat.not_lt.2 h)⟩
    · exact absurd rfl (nol _ a)
  · split at a
    · rename_i hb
      rw [if_pos hb]
      exact .inr ⟨_, _, _, _, _, _, rfl, rfl⟩
    · exact absurd rfl (nol _ a)
/-- a row of writes -/
theorem ws_of {H' : Type} {enc : TypeId × Value → H'} {P : Program} {W : World} {h : H} (s : Go.Ev.Start W h) (h0 : 0 < W.heap.size) {t e : TypeId} {fs : Array Field} {fuel : Nat} {cs : List Value} {x : DataW H' × List MemPlace} (ht : P.underlying t = some (.slice e)) (F : FlatF P e fs [.s, .b, .s])
    (hd : DataW.trod enc P W 0 (fun _ => true) true fuel t cs = some x) : ∃ sv L, cs = [sv] ∧ Ws h (absV W sv) L ∧ L.length ≤ 9223372036854775807 ∧ ∀ a ∈ L, True :=
  rows_of (c := wriC) (Pr := fun _ => True) wriC_len (by omega) s h0 ht F.sz (fun fuel cs x h => by
    obtain ⟨_, _, rfl, ⟨a, rfl, _⟩, _, _, rfl, ⟨b, rfl⟩, _, _, rfl, ⟨c, rfl, _⟩, rfl⟩ := flat_fits F h
    refine ⟨⟨a.data.toList, b, c.data.toList⟩, ?_, trivial⟩
    simp only [List.map_cons, List.map_nil, absV_bool, absV_str]
    rfl) hd
/-- a row of rows of writes -/
theorem wls_of {H' : Type} {enc : TypeId × Value → H'} {P : Program} {W : World} {h : H} (s : Go.Ev.Start W h) (h0 : 0 < W.heap.size) {t e e2 : TypeId} {fs : Array Field} {fuel : Nat} {cs : List Value} {x : DataW H' × List MemPlace}
    (ht : P.underlying t = some (.slice e)) (hc : P.cellsOf e = 1) (he : P.underlying e = some (.slice e2)) (F : FlatF P e2 fs [.s, .b, .s])
    (hd : DataW.trod enc P W 0 (fun _ => true) true fuel t cs = some x) : ∃ (sv : Value) (R : List (List Wri)) (ks : List Wk), cs = [sv] ∧ Wls h (absV W sv) R ks ∧ R.length ≤ 9223372036854775807 ∧ ∀ a ∈ R, a.length ≤ 9223372036854775807 := by
  obtain ⟨sv, L, e1, e2, e3, e4⟩ := rows_of (α := Wk) (c := wkC) (n := 1) (Pr := fun b => (Ws h b.v b.l ∧ SwN 3 b.v) ∧ b.l.length ≤ 9223372036854775807) wkC_len (Nat.le_refl _) s h0 ht hc (fun fuel cs x hx => by
    obtain ⟨w, M, rfl, m1, m2, _⟩ := ws_of s h0 he F hx
    exact ⟨⟨absV W w, M⟩, rfl, ⟨m1, swn_absW m1⟩, m2⟩) hd
  refine ⟨sv, L.map (·.l), L, e1, ⟨e2, rfl, fun k hk => (e4 k hk).1⟩, by rw [List.length_map]; exact e3, fun a ha => ?_⟩
  obtain ⟨b, hb, rfl⟩ := List.mem_map.1 ha
  exact (e4 b hb).2
end Go.Proofs.Ythncpgkpkdolfaa

set_option linter.all false
namespace Go.Proofs.Ythncpgkpkdolfaa
open Go Go.Ev
theorem batchLogs_l {h : H} {v : V} {R : List (List Wri)} {ks : List Wk} {F c : Nat} {s : UInt8} (hR : Wls h v R ks) (hl : R.length ≤ 9223372036854775807) (hl2 : ∀ a ∈ R, a.length ≤ 9223372036854775807) (hF : F ≤ 65535) (hc : c ≤ 65535) (hf : B.val h.floor ≤ B.val h.next) :
    FnOk Try.prog 4 [v, .i .u16 (F : Int), .i .u16 (c : Int), .i .u8 (s.toNat : Int)] h fun y _ => y = .b true := (batchLogs_ok hR hl hl2 hF hc hf).mono fun _ _ e => e.1
end Go.Proofs.Ythncpgkpkdolfaa

namespace Go.Proofs.Ythncpgkpkdolfaa.batchLogs
open Go Go.Ev Go.ChangeShapes Go.WideShapes Go.ChangeAt Go.RowKit Go.ChangeMaps
set_option linter.all false
theorem own : ownKnob Try.prog.godebug = none := by kernel_rfl
theorem laid : laidOutB Try.prog = true := by kernel_rfl
theorem heap_pos {W : World} (h : W.ShapedOpen Try.prog) : 0 < W.heap.size := by
  obtain ⟨o, _, h1, _⟩ := h.2 Try.prog.globals.size (Nat.le_refl _) (of_decide_eq_true (by kernel_rfl))
  exact Nat.lt_of_le_of_lt (Nat.zero_le _) (Array.getElem?_eq_some_iff.1 h1).1
set_option maxRecDepth 100000 in
theorem isR0 : ∃ fs, FlatF Try.prog 49 fs [.s, .b, .s] := ⟨_, ⟨Try.underlying49, by kernel_rfl, ⟨⟨_, rfl, rfl, by kernel_rfl, Try.underlying9⟩, ⟨_, rfl, rfl, by kernel_rfl, Try.underlying4⟩, ⟨_, rfl, rfl, by kernel_rfl, Try.underlying9⟩, trivial⟩⟩⟩
set_option maxRecDepth 100000 in
theorem run {H : Type} {enc : TypeId × Value → H} (W : World) (base : Nat) (args : Array Value) (ds : List (DataW H)) (p : List MemPlace) (hval : ∀ (j : Nat) t v, Try.f4.params[j]? = some t → args[j]? = some v → Value.okWide Try.prog W .any base t v) (hopen : W.ShapedOpen Try.prog)
    (hA : DataW.TrodAll enc Try.prog W 0 (fun _ => true) true Try.f4.params.toList args.toList ds p) : Calls Try.prog 4 args W fun e w' => e = .returned (.bool true) ∧ Below W.heap.size W w' := by
  rw [Try.params4] at hA hval
  obtain ⟨v0, vs0, d0, ds0, p0, q0, hargs, rfl, rfl, h0, r0⟩ := trodAll_cons hA
  obtain ⟨v1, vs1, d1, ds1, p1, q1, rfl, rfl, rfl, h1, r1⟩ := trodAll_cons r0
  obtain ⟨v2, vs2, d2, ds2, p2, q2, rfl, rfl, rfl, h2, r2⟩ := trodAll_cons r1
  obtain ⟨v3, vs3, d3, ds3, p3, q3, rfl, rfl, rfl, h3, r3⟩ := trodAll_cons r2
  obtain ⟨rfl, rfl, rfl⟩ := trodAll_nil r3
  obtain rfl : args = #[v0, v1, v2, v3] := by cases args; simp_all
  obtain ⟨h, s1, s2⟩ := Go.Ev.start W
  have s : Go.Ev.Start W h := ⟨s1, s2⟩
  obtain ⟨x0, y0, z0, rfl⟩ := okWide_slice Try.underlying42 (hval 0 42 v0 rfl rfl)
  obtain ⟨fu0, hfu0⟩ := h0
  obtain ⟨fs0, F0⟩ := isR0
  obtain ⟨u0, L0, ks0, e0, m0, l0, k0⟩ := wls_of s (heap_pos hopen) Try.underlying42 (by kernel_rfl) Try.underlying22 F0 hfu0
  obtain rfl := (List.cons.inj (show [Value.slice x0 y0 z0] = [u0] from e0)).1
  obtain ⟨a1, rfl, rfl, rfl, w1⟩ := open_int Try.underlying43 (hval 1 43 v1 rfl rfl) h1
  obtain ⟨n1, b1, rfl⟩ := u16_nat w1
  obtain ⟨a2, rfl, rfl, rfl, w2⟩ := open_int Try.underlying43 (hval 2 43 v2 rfl rfl) h2
  obtain ⟨n2, b2, rfl⟩ := u16_nat w2
  obtain ⟨a3, rfl, rfl, rfl, w3⟩ := open_int Try.underlying5 (hval 3 5 v3 rfl rfl) h3
  obtain ⟨n3, rfl⟩ := u8_byte w3
  exact calls_true s (vs := [absV W (.slice x0 y0 z0), .i .u16 (n1 : Int), .i .u16 (n2 : Int), .i .u8 (n3.toNat : Int)]) ⟨absV_rel W _, rfl, rfl, rfl, trivial⟩ (batchLogs_l m0 l0 k0 b1 b2 s1.flo)
set_option maxRecDepth 100000 in
theorem lifted (os : Os) (started : os.Started) (H : Type) (enc : TypeId × Value → H) :
    ReturnsInHanded {} Try.checked os 4 .any (Rows.batchLogsSpec.pre6 enc Try.prog Try.f4 Rows.batchLogsRow.domain false) (Rows.batchLogsSpec.post enc Try.prog Try.f4 false true false false) :=
  law_lifted (C := Try.checked) own started (by kernel_rfl) Try.func4
    (ChangeSpec.witness6 (enc := enc) (C := Try.checked) false ⟨#[], #[.slice none 0 0, .int .u16 0, .int .u16 0, .int .u8 0], []⟩ 8 (by kernel_rfl) (by kernel_rfl) (by kernel_rfl) (by kernel_rfl))
    rfl (fun ds hd => by rw [Try.params4] at hd; match ds, hd with | [d1, d2, d3, d4], _ => rfl) laid (by kernel_rfl) (by kernel_rfl) Try.underlying4 (fun W base args ds p hv ho hA => run W base args ds p hv ho hA)
theorem over : Rows.batchLogsRow.holds Try.pinned (OpenSpec.ofChange Rows.batchLogsSpec) :=
  OpenClaim.holds_of_wide 4 Try.f4 rfl rfl rfl rfl rfl rfl rfl ⟨rfl, rfl, rfl, rfl, rfl⟩ rfl rfl rfl rfl rfl (by kernel_rfl) Try.func4 (by kernel_rfl)
    (of_decide_eq_true (by kernel_rfl)) (by unfold Func.isWrapper; first | (rw [if_pos (by decide +kernel)]; kernel_rfl) | (rw [if_neg (by decide +kernel)]; exact ⟨rfl, rfl⟩))
    (fun os started H enc _ => lifted os started H enc)
/-- THE STATEMENT -/
theorem proved : Rows.BatchLogsSaid :=
  over
end Go.Proofs.Ythncpgkpkdolfaa.batchLogs
