/- Texts of ours, without what this claim does not use: NTbG NTbK NTbL JrTb2 Knravelinlaw9 NTb3 ArgE TableFinds. No condition. -/
import Derived.Test.YtiingkpdodbldaaPkTableFinds5
import Derived.Test.YtiingkpdodbldaaProg
import Derived.KernelRfl
import Derived.Test.YtiingkpdodbldaaRows
import Derived.WalkKit
import Derived.ProofKit
import Derived.OpenShut
import Derived.ChangeMaps5
set_option maxRecDepth 100000
set_option maxHeartbeats 8000000
set_option linter.all false
namespace Go.Proofs.Ytiingkpdodbldaa
open Go Go.Ev
theorem range_no {L : List Ent} {fr to : List UInt8} (h : (decide (to = []) || Op.bytesLess fr to) = false) : rangeE L fr to = [] := by
  unfold rangeE
  rw [List.filter_eq_nil_iff]
  intro e _
  unfold inR
  rw [Bool.or_eq_false_iff] at h
  rw [h.1, Bool.false_or]
  cases h1 : Op.bytesLess e.key fr with
  | true => simp
  | false =>
    cases h2 : Op.bytesLess e.key to with
    | false => simp
    | true =>
      exfalso
      by_cases e1 : e.key = fr
      · rw [e1, h.2] at h2; cases h2
      · rcases bl_total e1 with h3 | h3
        · rw [h1] at h3; cases h3
        · have := bl_trans h3 h2; rw [h.2] at this; cases this
theorem rangeU_none {L : List Ent} {fr to : List UInt8} : ∀ {k : Nat}, k ≤ (blksE L).length → (∀ i, i < k → rangeE ((blksE L).getD i []) fr to = []) → rangeU L fr to k = []
  | 0, _, _ => rfl
  | k + 1, hk, h => by rw [rangeU_succ (by omega), rangeU_none (k := k) (by omega) (fun i hi => h i (by omega)), h k (by omega)]; rfl
theorem rangeU_rest {L : List Ent} {fr to : List UInt8} {n : Nat} : ∀ {d : Nat}, n + d = (blksE L).length → (∀ i, n ≤ i → i < (blksE L).length → rangeE ((blksE L).getD i []) fr to = []) → rangeU L fr to n = rangeE L fr to
  | 0, hd, _ => by rw [← rangeU_all, ← hd, Nat.add_zero]
  | d + 1, hd, h => by
    have := rangeU_rest (L := L) (fr := fr) (to := to) (n := n + 1) (d := d) (by omega) fun i h1 h2 => h i (by omega) h2
    rw [← this, rangeU_succ (by omega), h n (Nat.le_refl _) (by omega), List.append_nil]
theorem take_filter {b : List Ent} {i : Nat} {q : Ent → Bool} (hi : i < b.length) : (b.take (i + 1)).filter q = (b.take i).filter q ++ (if q (b.getD i default) then [b.getD i default] else []) := by
  rw [List.take_succ, List.filter_append]
  congr 1
  simp [List.getD, hi, List.filter_cons]
theorem trange_ok {h : H} {p : B} {L : List Ent} {fr to : List UInt8} (T : Tb h p L) (ho : okB L) (hl : L.length ≤ 100) (hf : B.val h.floor ≤ B.val h.next) : FnOk Try.prog 14 [tp p, sv fr, sv to] h fun y h' =>
    ∃ v, y = .tu [v, .i .i64 0] ∧ Es h' v (rangeE L fr to) ∧ Stay nowhere h h' := by
  refine fn_go c14 (by intro hb; cases hb) (by simp) (by simp) fun Q hQ => ?_
  simp only [slotsF, Nat.reduceAdd]
  unfold tp
  have hm : ((blksE L).map pcOf).length = (blksE L).length := List.length_map _
  have hbl := blksE_len L
  repeat' (first
    | refine St.h ?_
    | simp (disch := first | omega | (simp only [lnv]; omega)) only [wlk, ↓get_put', ↓reduceIte, seval]
    | (with_reducible (first | apply cd_split | apply gd_split)) <;> (intro hc; (try simp only [hcn] at hc); (try simp only [hc]); (try simp only [hcl] at hc); try omega))
  refine CL.pure isBelow_ok ?_
  cases hbe : (decide (to = []) || Op.bytesLess fr to) with
  | false =>
    repeat' (first
      | refine St.h ?_
      | simp (disch := first | omega | (simp only [lnv]; omega)) only [wlk, ↓get_put', ↓reduceIte, seval]
      | (with_reducible (first | apply cd_split | apply gd_split)) <;> (intro hc; (try simp only [hcn] at hc); (try simp only [hc]); (try simp only [hcl] at hc); try omega))
    subst hQ
    exact ⟨_, rfl, by rw [range_no hbe]; exact Ss.nil, Stay.refl _ _⟩
  | true =>
  repeat' (first
    | refine St.h ?_
    | simp (disch := first | omega | (simp only [lnv]; omega)) only [wlk, ↓get_put', ↓reduceIte, seval]
    | (with_reducible (first | apply cd_split | apply gd_split)) <;> (intro hc; (try simp only [hcn] at hc); (try simp only [hc]); (try simp only [hcl] at hc); try omega))
  refine CL.mk (reaching_ok (key := fr) T (Stay.refl _ _) ho hl hf) ?_
  rintro u h1 ⟨k, hk1, hu, s1, hlo⟩
  have hf1 := s1.fl hf
  have hul : (((blksE L).map pcOf).drop k).length = (blksE L).length - k := by rw [List.length_drop, hm]
  repeat' (first
    | refine St.h ?_
    | simp (disch := first | omega | (simp only [lnv]; omega)) only [wlk, ↓get_put', ↓reduceIte, seval, hu.ln, hul]
    | (with_reducible (first | apply cd_split | apply gd_split)) <;> (intro hc; (try simp only [hcn] at hc); (try simp only [hc]); (try simp only [hcl] at hc); try omega))
  refine Ok.lp (fun m t g => ∃ (j : Nat) (w : V), m = (blksE L).length - k - j ∧ j ≤ (blksE L).length - k ∧ get 1 t = sv fr ∧ get 2 t = sv to ∧ get 8 t = w ∧ get 21 t = u ∧ get 22 t = .i .i64 (((blksE L).length - k : Nat) : Int) ∧ get 23 t = .i .i64 (j : Int) ∧ Stay nowhere h g ∧ Buf g 34 4 w ((rangeU L fr to (k + j)).flatMap entC) ∧ (∀ q, isOf w q → B.val h.next ≤ B.val q)) ((blksE L).length - k) ?_ ?_
  · simp (disch := first | omega | (simp only [lnv]; omega)) only [wlk, ↓get_put', ↓reduceIte, seval, hul]
    have h0 := rangeU_none (L := L) (fr := fr) (to := to) hk1 fun i hi => range_out (blks_ok ho _ (getD_mem (by omega))) (.inl (hlo i hi))
    refine ⟨0, .l0, by omega, by omega, ?_⟩
    refine ⟨?_, ?_, ?_, ?_, ?_, ?_, s1, by rw [Nat.add_zero, h0]; exact Buf.nil _ _ _, ?_⟩
    rotate_right
    · rintro i ⟨_, _, _, _, _, e⟩; cases e
    all_goals first | trivial | rfl
  rintro I hI m t g ⟨j, w, rfl, hj, f1, f2, f8, f21, f22, f23, st, bf, own⟩
  have hfg := st.fl hf
  by_cases hjl : j < (blksE L).length - k
  case neg =>
    obtain rfl : j = (blksE L).length - k := by omega
    repeat' (first
      | refine St.h ?_
      | simp (disch := first | omega | (simp only [lnv]; omega)) only [wlk, ↓get_put', ↓reduceIte, seval, f8, f21, f22, f23]
      | (with_reducible (first | apply cd_split | apply gd_split)) <;> (intro hc; (try simp only [hcn] at hc); (try simp only [hc]); (try simp only [hcl] at hc); try omega))
    subst hQ
    rw [show k + ((blksE L).length - k) = (blksE L).length by omega, rangeU_all] at bf
    exact ⟨w, rfl, Ss.buf bf rfl entC_len (by omega), st⟩
  have hkj : k + j < (blksE L).length := by omega
  have hub : (((blksE L).map pcOf).drop k).getD j default = pcOf ((blksE L).getD (k + j) []) := by
    rw [← pcs_at hkj]; simp [List.getD, List.getElem?_drop]
  have hug := Ps.grow hu st
  have hok := blks_ok ho _ (getD_mem hkj)
  have hle := blks_each hkj
  have hru := rangeU_succ (L := L) (fr := fr) (to := to) hkj
  have hrl := rangeU_le (L := L) (fr := fr) (to := to) (k + j)
  have hrl2 := rangeU_le (L := L) (fr := fr) (to := to) (k + j + 1)
  generalize hbk : (blksE L).getD (k + j) [] = bk at *
  repeat' (first
    | refine St.h ?_
    | simp (disch := first | omega | (simp only [lnv]; omega)) only [wlk, ↓get_put', ↓reduceIte, seval, f1, f2, f21, f22, f23, hug.ix, hug.la, hub, hul, Int.toNat_natCast]
    | (with_reducible (first | apply cd_split | apply gd_split)) <;> (intro hc; (try simp only [hcn] at hc); (try simp only [hc]); (try simp only [hcl] at hc); try omega))
  refine AL.own (by simp) hfg fun g1 t1 _ o1 => ?_
  have hfg1 := t1.fl hfg
  repeat' (first
    | refine St.h ?_
    | simp (disch := first | omega | (simp only [lnv]; omega)) only [wlk, ↓get_put', ↓reduceIte, seval, f1, f2, f21, f22, f23, hug.ix, hug.la, hub, Int.toNat_natCast]
    | (with_reducible (first | apply cd_split | apply gd_split)) <;> (intro hc; (try simp only [hcn] at hc); (try simp only [hc]); (try simp only [hcl] at hc); try omega))
  refine ST.all o1 rfl rfl (by simp) (by simp) fun g2 o2 t2 => ?_
  have t02 : Stay nowhere g g2 := t1.past' t2 fun q hq => by rw [hq]; exact Nat.le_refl _
  have hfg2 := t02.fl hfg
  have bf2 := bf.grow t02
  have hpb : pcOf bk = ⟨blkB bk, firstK bk, lastK bk⟩ := rfl
  rw [hpb] at o2
  repeat' (first
    | refine St.h ?_
    | simp (disch := first | omega | (simp only [lnv]; omega)) only [wlk, ↓get_put', ↓reduceIte, seval, f1, f2, f8, f21, f22, f23, o2.row.l1]
    | (with_reducible (first | apply cd_split | apply gd_split)) <;> (intro hc; (try simp only [hcn] at hc); (try simp only [hc]); (try simp only [hcl] at hc); try omega))
  refine CL.pure isBelow_ok ?_
  cases hfk : (decide (to = []) || Op.bytesLess (firstK bk) to) with
  | false =>
    repeat' (first
      | refine St.h ?_
      | simp (disch := first | omega | (simp only [lnv]; omega)) only [wlk, ↓get_put', ↓reduceIte, seval, f1, f2, f8, f21, f22, f23]
      | (with_reducible (first | apply cd_split | apply gd_split)) <;> (intro hc; (try simp only [hcn] at hc); (try simp only [hc]); (try simp only [hcl] at hc); try omega))
    subst hQ
    have hres : rangeU L fr to (k + j) = rangeE L fr to := by
      refine rangeU_rest (d := (blksE L).length - (k + j)) (by omega) fun i h1 h2 => ?_
      rw [Bool.or_eq_false_iff, decide_eq_false_iff_not] at hfk
      refine range_out (blks_ok ho _ (getD_mem h2)) (.inr ⟨hfk.1, ?_⟩)
      have h3 := first_le' ho h1 h2
      rw [hbk] at h3
      exact le_trans' hfk.2 h3
    rw [hres] at bf2
    exact ⟨w, rfl, Ss.buf bf2 rfl entC_len (by omega), st.trans t02⟩
  | true =>
  have hbn := blkB_len (b := bk) (by omega)
  repeat' (first
    | refine St.h ?_
    | simp (disch := first | omega | (simp only [lnv]; omega)) only [wlk, ↓get_put', ↓reduceIte, seval, f1, f2, f8, f21, f22, f23, o2.row.l1]
    | (with_reducible (first | apply cd_split | apply gd_split)) <;> (intro hc; (try simp only [hcn] at hc); (try simp only [hc]); (try simp only [hcl] at hc); try omega))
  refine CL.mk (bread_okO (by omega) hfg2) ?_
  rintro _ g3 ⟨lv, rfl, hv, t3, hvo⟩
  have hfg3 := t3.fl hfg2
  rw [blkB_read hok (by omega)] at hv ⊢
  have hv : Es g3 lv bk := hv
  have bf3 := bf2.grow t3
  have s3 := (st.trans t02).trans t3
  repeat' (first
    | refine St.h ?_
    | simp (disch := first | omega | (simp only [lnv]; omega)) only [wlk, ↓get_put', ↓reduceIte, seval, f1, f2, f8, f21, f22, f23, hv.ln]
    | (with_reducible (first | apply cd_split | apply gd_split)) <;> (intro hc; (try simp only [hcn] at hc); (try simp only [hc]); (try simp only [hcl] at hc); try omega))
  refine Ok.lp (fun m t' g' => ∃ (i : Nat) (w' : V), m = bk.length - i ∧ i ≤ bk.length ∧ get 1 t' = sv fr ∧ get 2 t' = sv to ∧ get 8 t' = w' ∧ get 21 t' = u ∧ get 22 t' = .i .i64 (((blksE L).length - k : Nat) : Int) ∧ get 23 t' = .i .i64 (j : Int) ∧ get 41 t' = lv ∧ get 42 t' = .i .i64 (bk.length : Int) ∧ get 43 t' = .i .i64 (i : Int) ∧ Stay nowhere h g' ∧ Es g' lv bk ∧ Buf g' 34 4 w' ((rangeU L fr to (k + j) ++ (bk.take i).filter (inR fr to)).flatMap entC) ∧ (∀ q, isOf w' q → B.val h.next ≤ B.val q) ∧ ∀ q, isOf w' q → ¬ isOf lv q) bk.length ?_ ?_
  · simp (disch := first | omega | (simp only [lnv]; omega)) only [wlk, ↓get_put', ↓reduceIte, seval, f1, f2, f8, f21, f22, f23]
    refine ⟨0, w, by omega, by omega, ?_⟩
    refine ⟨?_, ?_, ?_, ?_, ?_, ?_, ?_, ?_, ?_, s3, hv, by simpa using bf3, own, fun q h1 h2 => by have := hvo q h2; have := (bf2.own h1).2; omega⟩
    all_goals first | trivial | rfl
  rintro I2 hI2 m2 t' g' ⟨i, w', rfl, hi, e1, e2, e8, e21, e22, e23, e41, e42, e43, st', hv', bf', own', dis'⟩
  have hfg' := st'.fl hf
  by_cases hil : i < bk.length
  case neg =>
    obtain rfl : i = bk.length := by omega
    rw [List.take_length] at bf'
    have hbf : rangeU L fr to (k + j) ++ bk.filter (inR fr to) = rangeU L fr to (k + j + 1) := by rw [hru]; rfl
    rw [hbf] at bf'
    repeat' (first
      | refine St.h ?_
      | simp (disch := first | omega | (simp only [lnv]; omega)) only [wlk, ↓get_put', ↓reduceIte, seval, e1, e2, e8, e21, e22, e23, e41, e42, e43]
      | (with_reducible (first | apply cd_split | apply gd_split)) <;> (intro hc; (try simp only [hcn] at hc); (try simp only [hc]); (try simp only [hcl] at hc); try omega))
    refine lp_next hI ((blksE L).length - k - (j + 1)) (by omega) ⟨j + 1, w', rfl, by omega, ?_, ?_, ?_, ?_, ?_, ?_, st', bf', own'⟩
    · simp (disch := first | omega | (simp only [lnv]; omega)) only [wlk, ↓get_put', ↓reduceIte, seval, e1]
    · simp (disch := first | omega | (simp only [lnv]; omega)) only [wlk, ↓get_put', ↓reduceIte, seval, e2]
    · simp (disch := first | omega | (simp only [lnv]; omega)) only [wlk, ↓get_put', ↓reduceIte, seval, e8]
    · simp (disch := first | omega | (simp only [lnv]; omega)) only [wlk, ↓get_put', ↓reduceIte, seval, e21]
    · simp (disch := first | omega | (simp only [lnv]; omega)) only [wlk, ↓get_put', ↓reduceIte, seval, e22]
    · simp (disch := first | omega | (simp only [lnv]; omega)) only [wlk, ↓get_put', ↓reduceIte, seval, e23]; rfl
  have htf := take_filter (b := bk) (q := inR fr to) hil
  have hfl : ((bk.take (i + 1)).filter (inR fr to)).length ≤ bk.length := by
    have h1 := List.length_filter_le (inR fr to) (bk.take (i + 1))
    have h2 : (bk.take (i + 1)).length ≤ bk.length := by rw [List.length_take]; omega
    omega
  repeat' (first
    | refine St.h ?_
    | simp (disch := first | omega | (simp only [lnv]; omega)) only [wlk, ↓get_put', ↓reduceIte, seval, e1, e2, e8, e21, e22, e23, e41, e42, e43, hv'.ix, hv'.la, Int.toNat_natCast]
    | (with_reducible (first | apply cd_split | apply gd_split)) <;> (intro hc; (try simp only [hcn] at hc); (try simp only [hc]); (try simp only [hcl] at hc); try omega))
  refine AL.own (by simp) hfg' fun g4 t4 _ o4 => ?_
  have hfg4 := t4.fl hfg'
  repeat' (first
    | refine St.h ?_
    | simp (disch := first | omega | (simp only [lnv]; omega)) only [wlk, ↓get_put', ↓reduceIte, seval, e1, e2, e8, e21, e22, e23, e41, e42, e43, hv'.ix, hv'.la, Int.toNat_natCast]
    | (with_reducible (first | apply cd_split | apply gd_split)) <;> (intro hc; (try simp only [hcn] at hc); (try simp only [hc]); (try simp only [hcl] at hc); try omega))
  refine ST.all o4 rfl rfl (by simp) (by simp) fun g5 o5 t5 => ?_
  have hlt5 : ∀ q, isOf w' q → q ≠ g'.next := fun q hq e => absurd (bf'.own hq).2 (by rw [e]; exact Nat.lt_irrefl _)
  have t45 : Stay nowhere g' g5 := t4.past' t5 fun q hq => by rw [hq]; exact Nat.le_refl _
  have hfg5 := t45.fl hfg'
  have bf5 := bf'.grow t45
  have st5 := st'.trans t45
  have hv5 := hv'.grow t45
  generalize hx : bk.getD i default = x at *
  obtain ⟨xk, xq, xd, xv⟩ := x
  have hin : inR fr to ⟨xk, xq, xd, xv⟩ = (!Op.bytesLess xk fr && (decide (to = []) || Op.bytesLess xk to)) := rfl
  cases hc1 : Op.bytesLess xk fr with
  | true =>
    have hq : inR fr to ⟨xk, xq, xd, xv⟩ = false := by rw [hin, hc1]; rfl
    rw [hq] at htf
    have htf : (bk.take (i + 1)).filter (inR fr to) = (bk.take i).filter (inR fr to) := by rw [htf]; simp
    repeat' (first
      | refine St.h ?_
      | simp (disch := first | omega | (simp only [lnv]; omega)) only [wlk, ↓get_put', ↓reduceIte, seval, e1, e2, e8, e21, e22, e23, e41, e42, e43, o5.row.l1, hc1]
      | (with_reducible (first | apply cd_split | apply gd_split)) <;> (intro hc; (try simp only [hcn] at hc); (try simp only [hc]); (try simp only [hcl] at hc); try omega))
    refine lp_next hI2 (bk.length - (i + 1)) (by omega) ⟨i + 1, w', rfl, by omega, ?_, ?_, ?_, ?_, ?_, ?_, ?_, ?_, ?_, st5, hv5, by rw [htf]; exact bf5, own', dis'⟩
    · simp (disch := first | omega | (simp only [lnv]; omega)) only [wlk, ↓get_put', ↓reduceIte, seval, e1]
    · simp (disch := first | omega | (simp only [lnv]; omega)) only [wlk, ↓get_put', ↓reduceIte, seval, e2]
    · simp (disch := first | omega | (simp only [lnv]; omega)) only [wlk, ↓get_put', ↓reduceIte, seval, e8]
    · simp (disch := first | omega | (simp only [lnv]; omega)) only [wlk, ↓get_put', ↓reduceIte, seval, e21]
    · simp (disch := first | omega | (simp only [lnv]; omega)) only [wlk, ↓get_put', ↓reduceIte, seval, e22]
    · simp (disch := first | omega | (simp only [lnv]; omega)) only [wlk, ↓get_put', ↓reduceIte, seval, e23]
    · simp (disch := first | omega | (simp only [lnv]; omega)) only [wlk, ↓get_put', ↓reduceIte, seval, e41]
    · simp (disch := first | omega | (simp only [lnv]; omega)) only [wlk, ↓get_put', ↓reduceIte, seval, e42]
    · simp (disch := first | omega | (simp only [lnv]; omega)) only [wlk, ↓get_put', ↓reduceIte, seval, e43]; rfl
  | false =>
  repeat' (first
    | refine St.h ?_
    | simp (disch := first | omega | (simp only [lnv]; omega)) only [wlk, ↓get_put', ↓reduceIte, seval, e1, e2, e8, e21, e22, e23, e41, e42, e43, o5.row.l1, hc1]
    | (with_reducible (first | apply cd_split | apply gd_split)) <;> (intro hc; (try simp only [hcn] at hc); (try simp only [hc]); (try simp only [hcl] at hc); try omega))
  refine CL.pure isBelow_ok ?_
  cases hc2 : (decide (to = []) || Op.bytesLess xk to) with
  | false =>
    have hq : inR fr to ⟨xk, xq, xd, xv⟩ = false := by rw [hin, hc2, Bool.and_false]
    rw [hq] at htf
    have htf : (bk.take (i + 1)).filter (inR fr to) = (bk.take i).filter (inR fr to) := by rw [htf]; simp
    repeat' (first
      | refine St.h ?_
      | simp (disch := first | omega | (simp only [lnv]; omega)) only [wlk, ↓get_put', ↓reduceIte, seval, e1, e2, e8, e21, e22, e23, e41, e42, e43]
      | (with_reducible (first | apply cd_split | apply gd_split)) <;> (intro hc; (try simp only [hcn] at hc); (try simp only [hc]); (try simp only [hcl] at hc); try omega))
    refine lp_next hI2 (bk.length - (i + 1)) (by omega) ⟨i + 1, w', rfl, by omega, ?_, ?_, ?_, ?_, ?_, ?_, ?_, ?_, ?_, st5, hv5, by rw [htf]; exact bf5, own', dis'⟩
    · simp (disch := first | omega | (simp only [lnv]; omega)) only [wlk, ↓get_put', ↓reduceIte, seval, e1]
    · simp (disch := first | omega | (simp only [lnv]; omega)) only [wlk, ↓get_put', ↓reduceIte, seval, e2]
    · simp (disch := first | omega | (simp only [lnv]; omega)) only [wlk, ↓get_put', ↓reduceIte, seval, e8]
    · simp (disch := first | omega | (simp only [lnv]; omega)) only [wlk, ↓get_put', ↓reduceIte, seval, e21]
    · simp (disch := first | omega | (simp only [lnv]; omega)) only [wlk, ↓get_put', ↓reduceIte, seval, e22]
    · simp (disch := first | omega | (simp only [lnv]; omega)) only [wlk, ↓get_put', ↓reduceIte, seval, e23]
    · simp (disch := first | omega | (simp only [lnv]; omega)) only [wlk, ↓get_put', ↓reduceIte, seval, e41]
    · simp (disch := first | omega | (simp only [lnv]; omega)) only [wlk, ↓get_put', ↓reduceIte, seval, e42]
    · simp (disch := first | omega | (simp only [lnv]; omega)) only [wlk, ↓get_put', ↓reduceIte, seval, e43]; rfl
  | true =>
  have hq : inR fr to ⟨xk, xq, xd, xv⟩ = true := by rw [hin, hc2, hc1]; rfl
  rw [hq, if_pos rfl] at htf
  have hec : ([sv xk, .i .i64 xq, .b xd, sv xv] : List V) = entC ⟨xk, xq, xd, xv⟩ := rfl
  repeat' (first
    | refine St.h ?_
    | simp (disch := first | omega | (simp only [lnv]; omega)) only [wlk, ↓get_put', ↓reduceIte, seval, e1, e2, e8, e21, e22, e23, e41, e42, e43, o5.row.ln]
    | (with_reducible (first | apply cd_split | apply gd_split)) <;> (intro hc; (try simp only [hcn] at hc); (try simp only [hc]); (try simp only [hcl] at hc); try omega))
  refine AL.own (by simp) hfg5 fun g6 t6 _ o6 => ?_
  have hfg6 := t6.fl hfg5
  have bf6 := bf5.grow t6
  have hfm := fm_len entC_len (rangeU L fr to (k + j) ++ (bk.take i).filter (inR fr to))
  have hfl2 : ((bk.take i).filter (inR fr to)).length ≤ bk.length := by
    have h1 := List.length_filter_le (inR fr to) (bk.take i)
    have h2 : (bk.take i).length ≤ bk.length := by rw [List.length_take]; omega
    omega
  rw [List.length_append] at hfm
  repeat' (first
    | refine St.h ?_
    | simp (disch := first | omega | (simp only [lnv]; omega)) only [wlk, ↓get_put', ↓reduceIte, seval, e1, e2, e8, e21, e22, e23, e41, e42, e43]
    | (with_reducible (first | apply cd_split | apply gd_split)) <;> (intro hc; (try simp only [hcn] at hc); (try simp only [hc]); (try simp only [hcl] at hc); try omega))
  refine AP.buf (vs := entC ⟨xk, xq, xd, xv⟩) (cnt := 1) bf6 (new_row o6.row rfl (Nat.le_refl _) (by omega) (by show 4 ≤ 4; omega)) hfg6 (by omega) rfl rfl (by rw [hfm, entC_len]; omega) fun w2 g7 b7 t7 ho7 tp7 => ?_
  have st7 : Stay nowhere h g7 := (st5.trans t6).past' t7 fun q hq => own' q hq
  have hv7 : Es g7 lv bk := Ss.stay (hv5.grow t6) t7 fun q hq hq2 => dis' q hq2 hq
  repeat' (first
    | refine St.h ?_
    | simp (disch := first | omega | (simp only [lnv]; omega)) only [wlk, ↓get_put', ↓reduceIte, seval, e1, e2, e8, e21, e22, e23, e41, e42, e43]
    | (with_reducible (first | apply cd_split | apply gd_split)) <;> (intro hc; (try simp only [hcn] at hc); (try simp only [hc]); (try simp only [hcl] at hc); try omega))
  refine lp_next hI2 (bk.length - (i + 1)) (by omega) ⟨i + 1, w2, rfl, by omega, ?_, ?_, ?_, ?_, ?_, ?_, ?_, ?_, ?_, st7, hv7, by rw [htf, ← List.append_assoc, List.flatMap_append]; simpa using b7, fun q hq => ?_, fun q hq hq2 => ?_⟩
  · simp (disch := first | omega | (simp only [lnv]; omega)) only [wlk, ↓get_put', ↓reduceIte, seval, e1]
  · simp (disch := first | omega | (simp only [lnv]; omega)) only [wlk, ↓get_put', ↓reduceIte, seval, e2]
  · simp (disch := first | omega | (simp only [lnv]; omega)) only [wlk, ↓get_put', ↓reduceIte, seval]
  · simp (disch := first | omega | (simp only [lnv]; omega)) only [wlk, ↓get_put', ↓reduceIte, seval, e21]
  · simp (disch := first | omega | (simp only [lnv]; omega)) only [wlk, ↓get_put', ↓reduceIte, seval, e22]
  · simp (disch := first | omega | (simp only [lnv]; omega)) only [wlk, ↓get_put', ↓reduceIte, seval, e23]
  · simp (disch := first | omega | (simp only [lnv]; omega)) only [wlk, ↓get_put', ↓reduceIte, seval, e41]
  · simp (disch := first | omega | (simp only [lnv]; omega)) only [wlk, ↓get_put', ↓reduceIte, seval, e42]
  · simp (disch := first | omega | (simp only [lnv]; omega)) only [wlk, ↓get_put', ↓reduceIte, seval, e43]; rfl
  · rcases ho7 q hq with h1 | h1
    · exact own' q h1
    · have := st5.next; have := t6.next; omega
  · rcases ho7 q hq with h1 | h1
    · exact dis' q h1 hq2
    · obtain ⟨_, _, _, _, _, e⟩ := hq2
      rcases hv5 with ⟨e2, _⟩ | ⟨id, a, b, c, d, e2, _, e3, _⟩
      · rw [e2] at e; cases e
      · rw [e2] at e; cases e
        have := t6.next; omega
theorem tall_ok {h : H} {p : B} {L : List Ent} (T : Tb h p L) (ho : okB L) (hl : L.length ≤ 100) (hf : B.val h.floor ≤ B.val h.next) : FnOk Try.prog 15 [tp p] h fun y h' =>
    ∃ v, y = .tu [v, .i .i64 0] ∧ Es h' v L ∧ Stay nowhere h h' := by
  refine fn_go c15 (by intro hb; cases hb) (by simp) (by simp) fun Q hQ => ?_
  simp only [slotsF, Nat.reduceAdd]
  repeat' (first
    | refine St.h ?_
    | simp (disch := first | omega | (simp only [lnv]; omega)) only [wlk, ↓get_put', ↓reduceIte, seval]
    | (with_reducible (first | apply cd_split | apply gd_split)) <;> (intro hc; (try simp only [hcn] at hc); (try simp only [hc]); (try simp only [hcl] at hc); try omega))
  refine CL.mk (trange_ok (fr := []) (to := []) T ho hl hf) ?_
  rintro _ h1 ⟨v, rfl, hv, s1⟩
  rw [range_all] at hv
  repeat' (first
    | refine St.h ?_
    | simp (disch := first | omega | (simp only [lnv]; omega)) only [wlk, ↓get_put', ↓reduceIte, seval]
    | (with_reducible (first | apply cd_split | apply gd_split)) <;> (intro hc; (try simp only [hcn] at hc); (try simp only [hc]); (try simp only [hcl] at hc); try omega))
  subst hQ
  exact ⟨v, rfl, hv, s1⟩
end Go.Proofs.Ytiingkpdodbldaa

set_option maxRecDepth 100000
set_option maxHeartbeats 8000000
set_option linter.all false
namespace Go.Proofs.Ytiingkpdodbldaa
open Go Go.Ev
theorem blkGo_end {c : List Ent} : blkGo c [] = c :: blksE [] := rfl
theorem take_snoc {L : List Ent} {k : Nat} (hk : k < L.length) : L.take (k + 1) = L.take k ++ [L.getD k default] := by
  rw [List.take_succ]; congr 1; simp [List.getD, hk]
theorem fill_ok {h : H} {v : V} {L : List Ent} (hL : Es h v L) (hw : SwN 4 v) (hne : L ≠ []) (hl : L.length ≤ 100) (hf : B.val h.floor ≤ B.val h.next) : FnOk Try.prog 51 [v] h fun y h' =>
    ∃ k : Nat, 1 ≤ k ∧ k ≤ L.length ∧ y = .tu [sv (blkB (L.take k)), .i .i64 (k : Int)] ∧ blksE L = L.take k :: blksE (L.drop k) ∧ Stay nowhere h h' := by
  refine fn_go c51 (by intro hb; cases hb) (by simp) (by simp) fun Q hQ => ?_
  simp only [slotsF, Nat.reduceAdd]
  repeat' (first
    | refine St.h ?_
    | simp (disch := first | omega | (simp only [lnv]; omega)) only [wlk, ↓get_put', ↓reduceIte, seval]
    | (with_reducible (first | apply cd_split | apply gd_split)) <;> (intro hc; (try simp only [hcn] at hc); (try simp only [hc]); (try simp only [hcl] at hc); try omega))
  have hpos : 1 ≤ L.length := by cases L with | nil => exact absurd rfl hne | cons => simp
  refine Ok.lp (fun m t g => ∃ k : Nat, m = L.length - k ∧ k ≤ L.length ∧ get 0 t = v ∧ get 4 t = sv (if k = 0 then [] else blkB (L.take k)) ∧ get 5 t = .i .i64 (k : Int) ∧ Stay nowhere h g ∧ (1 ≤ k → blksE L = blkGo (L.take k) (L.drop k))) L.length ?_ ?_
  · simp (disch := first | omega | (simp only [lnv]; omega)) only [wlk, ↓get_put', ↓reduceIte, seval]
    exact ⟨0, by omega, by omega, trivial, by rw [if_pos rfl], rfl, Stay.refl _ _, fun h => by omega⟩
  rintro I hI m t g ⟨k, rfl, hk, f0, f4, f5, st, hgo⟩
  have hfg := st.fl hf
  by_cases hkl : k < L.length
  case neg =>
    obtain rfl : k = L.length := by omega
    rw [if_neg (by omega)] at f4
    have hgo := hgo hpos
    rw [List.drop_length, blkGo_end] at hgo
    repeat' (first
      | refine St.h ?_
      | simp (disch := first | omega | (simp only [lnv]; omega)) only [wlk, ↓get_put', ↓reduceIte, seval, f0, f4, f5, hL.ln]
      | (with_reducible (first | apply cd_split | apply gd_split)) <;> (intro hc; (try simp only [hcn] at hc); (try simp only [hc]); (try simp only [hcl] at hc); try omega))
    subst hQ
    exact ⟨L.length, hpos, by omega, rfl, by rw [List.drop_length]; exact hgo, st⟩
  obtain ⟨u, u1, u2, u3⟩ := Ss.hi (P := Try.prog) (kd := .i64) hL entC_len hw (k := k + 1) (by omega)
  have e1 : (k : Int) + 1 = ((k + 1 : Nat) : Int) := by omega
  have htl : (L.take (k + 1)).length = k + 1 := by rw [List.length_take]; omega
  repeat' (first
    | refine St.h ?_
    | simp (disch := first | omega | (simp only [lnv]; omega)) only [wlk, ↓get_put', ↓reduceIte, seval, f0, f4, f5, hL.ln, e1, u3]
    | (with_reducible (first | apply cd_split | apply gd_split)) <;> (intro hc; (try simp only [hcn] at hc); (try simp only [hc]); (try simp only [hcl] at hc); try omega))
  refine CL.stay (bmake_ok (u1.grow st) (by omega) hfg) fun g1 t1 => ?_
  have hfg1 := t1.fl hfg
  have hbb : (blkE (L.take (k + 1))).1 = blkB (L.take (k + 1)) := rfl
  rw [hbb]
  by_cases hk0 : k = 0
  case pos =>
    subst hk0
    have hz : ((0 : Nat) : Int) = 0 := rfl
    repeat' (first
      | refine St.h ?_
      | simp (disch := first | omega | (simp only [lnv]; omega)) only [wlk, ↓get_put', ↓reduceIte, seval, f0, f4, f5, hz]
      | (with_reducible (first | apply cd_split | apply gd_split)) <;> (intro hc; (try simp only [hcn] at hc); (try simp only [hc]); (try simp only [hcl] at hc); try omega))
    refine lp_next hI (L.length - (0 + 1)) (by omega) ⟨0 + 1, rfl, by omega, ?_, ?_, ?_, st.trans t1, fun _ => ?_⟩
    · simp (disch := first | omega | (simp only [lnv]; omega)) only [wlk, ↓get_put', ↓reduceIte, seval, f0]
    · simp (disch := first | omega | (simp only [lnv]; omega)) only [wlk, ↓get_put', ↓reduceIte, seval]
    · simp (disch := first | omega | (simp only [lnv]; omega)) only [wlk, ↓get_put', ↓reduceIte, seval]
    · cases L with
      | nil => exact absurd rfl hne
      | cons e r => rfl
  have hgo := hgo (by omega)
  have hkp : (0 < (k : Int)) = True := eq_true (by omega)
  have hdr := drop_ent hkl
  rw [hdr] at hgo
  have hts := take_snoc hkl
  by_cases hbig : 200 < (blkB (L.take (k + 1))).length
  case pos =>
    have hbg : (200 < ((blkB (L.take (k + 1))).length : Int)) = True := eq_true (by omega)
    rw [blkGo_big (by rw [← hts]; exact hbig)] at hgo
    rw [if_neg hk0] at f4
    repeat' (first
      | refine St.h ?_
      | simp (disch := first | omega | (simp only [lnv]; omega)) only [wlk, ↓get_put', ↓reduceIte, seval, f0, f4, f5, hkp, hbg]
      | (with_reducible (first | apply cd_split | apply gd_split)) <;> (intro hc; (try simp only [hcn] at hc); (try simp only [hc]); (try simp only [hcl] at hc); try omega))
    subst hQ
    exact ⟨k, by omega, by omega, rfl, by rw [hdr]; exact hgo, st.trans t1⟩
  have hbg : (200 < ((blkB (L.take (k + 1))).length : Int)) = False := eq_false (by omega)
  rw [blkGo_fit (by rw [← hts]; exact Nat.not_lt.1 hbig), ← hts] at hgo
  repeat' (first
    | refine St.h ?_
    | simp (disch := first | omega | (simp only [lnv]; omega)) only [wlk, ↓get_put', ↓reduceIte, seval, f0, f4, f5, hkp, hbg]
    | (with_reducible (first | apply cd_split | apply gd_split)) <;> (intro hc; (try simp only [hcn] at hc); (try simp only [hc]); (try simp only [hcl] at hc); try omega))
  refine lp_next hI (L.length - (k + 1)) (by omega) ⟨k + 1, rfl, by omega, ?_, ?_, ?_, st.trans t1, fun _ => hgo⟩
  · simp (disch := first | omega | (simp only [lnv]; omega)) only [wlk, ↓get_put', ↓reduceIte, seval, f0]
  · simp (disch := first | omega | (simp only [lnv]; omega)) only [wlk, ↓get_put', ↓reduceIte, seval]
  · simp (disch := first | omega | (simp only [lnv]; omega)) only [wlk, ↓get_put', ↓reduceIte, seval]; rfl
theorem pack_ok {h : H} {v : V} {L : List Ent} (hL : Es h v L) (hw : SwN 4 v) (hl : L.length ≤ 100) (hf : B.val h.floor ≤ B.val h.next) : FnOk Try.prog 23 [v] h fun y h' =>
    Ps h' y ((blksE L).map pcOf) ∧ SwN 3 y ∧ Stay nowhere h h' := by
  refine fn_go c23 (by intro hb; cases hb) (by simp) (by simp) fun Q hQ => ?_
  simp only [slotsF, Nat.reduceAdd]
  repeat' (first
    | refine St.h ?_
    | simp (disch := first | omega | (simp only [lnv]; omega)) only [wlk, ↓get_put', ↓reduceIte, seval]
    | (with_reducible (first | apply cd_split | apply gd_split)) <;> (intro hc; (try simp only [hcn] at hc); (try simp only [hc]); (try simp only [hcl] at hc); try omega))
  refine Ok.lp (fun m t g => ∃ (R : List Ent) (out : List (List Ent)) (r w : V), m = R.length ∧ R.length ≤ L.length ∧ out.length + R.length ≤ L.length ∧ blksE L = out ++ blksE R ∧ get 0 t = r ∧ get 3 t = w ∧ Stay nowhere h g ∧ Es h r R ∧ SwN 4 r ∧ Buf g 60 3 w ((out.map pcOf).flatMap pcC) ∧ (∀ i, isOf w i → B.val h.next ≤ B.val i)) L.length ?_ ?_
  · simp (disch := first | omega | (simp only [lnv]; omega)) only [wlk, ↓get_put', ↓reduceIte, seval]
    refine ⟨L, [], v, .l0, rfl, by omega, by simp, rfl, ?_⟩
    refine ⟨?_, ?_, Stay.refl _ _, hL, hw, Buf.nil _ _ _, ?_⟩
    rotate_right
    · rintro i ⟨_, _, _, _, _, e⟩; cases e
    all_goals first | trivial | rfl
  rintro I hI m t g ⟨R, out, r, w, rfl, hRl, hol, hbs, f0, f3, st, hR, hwr, bf, own⟩
  have hfg := st.fl hf
  by_cases hR0 : R.length = 0
  case pos =>
    have hRe : R = [] := List.eq_nil_of_length_eq_zero hR0
    rw [hRe, show blksE ([] : List Ent) = [] from rfl, List.append_nil] at hbs
    rw [← hbs] at bf
    repeat' (first
      | refine St.h ?_
      | simp (disch := first | omega | (simp only [lnv]; omega)) only [wlk, ↓get_put', ↓reduceIte, seval, f0, f3, hR.ln]
      | (with_reducible (first | apply cd_split | apply gd_split)) <;> (intro hc; (try simp only [hcn] at hc); (try simp only [hc]); (try simp only [hcl] at hc); try omega))
    subst hQ
    exact ⟨Ss.buf bf rfl pcC_len (by omega), swn_buf bf, st⟩
  have hRn : R ≠ [] := fun e => hR0 (by rw [e]; rfl)
  have hRp : 1 ≤ R.length := by omega
  repeat' (first
    | refine St.h ?_
    | simp (disch := first | omega | (simp only [lnv]; omega)) only [wlk, ↓get_put', ↓reduceIte, seval, f0, f3, hR.ln]
    | (with_reducible (first | apply cd_split | apply gd_split)) <;> (intro hc; (try simp only [hcn] at hc); (try simp only [hc]); (try simp only [hcl] at hc); try omega))
  refine CL.mk (fill_ok (hR.grow st) hwr hRn (by omega) hfg) ?_
  rintro _ g1 ⟨k, k1, k2, rfl, hbk, t1⟩
  have hfg1 := t1.fl hfg
  have st1 := st.trans t1
  have bf1 := bf.grow t1
  have hR1 := hR.grow st1
  obtain ⟨u, u1, u2, u3⟩ := Ss.lo (P := Try.prog) (kd := .i64) hR entC_len hwr (k := k) k2
  have e1 : ((k : Int) - 1).toNat = k - 1 := by omega
  have hfi : firstK (R.take k) = (R.getD 0 default).key := by
    unfold firstK; simp [List.getD, List.getElem?_take, show 0 < k by omega]
  have htl : (R.take k).length = k := by rw [List.length_take]; omega
  have hla : lastK (R.take k) = (R.getD (k - 1) default).key := by
    unfold lastK; rw [htl]; simp [List.getD, List.getElem?_take, show k - 1 < k by omega]
  have hpc : pcC (pcOf (R.take k)) = [sv (blkB (R.take k)), sv (R.getD 0 default).key, sv (R.getD (k - 1) default).key] := by
    unfold pcOf pcC; rw [hfi, hla]
  repeat' (first
    | refine St.h ?_
    | simp (disch := first | omega | (simp only [lnv]; omega)) only [wlk, ↓get_put', ↓reduceIte, seval, f0, f3, hR.ix, es_l00 hR1 (by omega), hR1.l0, e1, Int.toNat_natCast]
    | (with_reducible (first | apply cd_split | apply gd_split)) <;> (intro hc; (try simp only [hcn] at hc); (try simp only [hc]); (try simp only [hcl] at hc); try omega))
  refine AL.own (by simp) hfg1 fun g4 t4 _ o4 => ?_
  have hfg4 := t4.fl hfg1
  have bf4 := bf1.grow t4
  have hfm := fm_len pcC_len (out.map pcOf)
  rw [List.length_map] at hfm
  repeat' (first
    | refine St.h ?_
    | simp (disch := first | omega | (simp only [lnv]; omega)) only [wlk, ↓get_put', ↓reduceIte, seval, f0, f3]
    | (with_reducible (first | apply cd_split | apply gd_split)) <;> (intro hc; (try simp only [hcn] at hc); (try simp only [hc]); (try simp only [hcl] at hc); try omega))
  refine AP.buf (vs := pcC (pcOf (R.take k))) (cnt := 1) bf4 (new_row (by rw [hpc]; exact o4.row) rfl (Nat.le_refl _) (by omega) (by show 3 ≤ 3; omega)) hfg4 (by omega) rfl rfl (by rw [hfm, pcC_len]; omega) fun w' g5 b5 t5 ho tp => ?_
  repeat' (first
    | refine St.h ?_
    | simp (disch := first | omega | (simp only [lnv]; omega)) only [wlk, ↓get_put', ↓reduceIte, seval, f0, f3, u3]
    | (with_reducible (first | apply cd_split | apply gd_split)) <;> (intro hc; (try simp only [hcn] at hc); (try simp only [hc]); (try simp only [hcl] at hc); try omega))
  have s5 : Stay nowhere h g5 := (st1.trans t4).past' t5 fun q hq => own q hq
  refine lp_next hI (R.drop k).length (by rw [List.length_drop]; omega) ⟨R.drop k, out ++ [R.take k], u, w', rfl, by rw [List.length_drop]; omega, by rw [List.length_append, List.length_drop]; simp; omega, by rw [hbs, hbk]; simp, ?_, ?_, s5, u1, u2, by rw [List.map_append, List.flatMap_append]; simpa using b5, fun q hq => ?_⟩
  · simp (disch := first | omega | (simp only [lnv]; omega)) only [wlk, ↓get_put', ↓reduceIte, seval]
  · simp (disch := first | omega | (simp only [lnv]; omega)) only [wlk, ↓get_put', ↓reduceIte, seval]
  · rcases ho q hq with h1 | h1
    · exact own q h1
    · have := st1.next; have := t4.next; omega
end Go.Proofs.Ytiingkpdodbldaa

set_option maxRecDepth 100000
set_option maxHeartbeats 8000000
set_option linter.all false
namespace Go.Proofs.Ytiingkpdodbldaa
open Go Go.Ev
theorem keysOf_ok {h : H} {v : V} {L : List Ent} (hL : Es h v L) (hl : L.length ≤ 100) (hf : B.val h.floor ≤ B.val h.next) : FnOk Try.prog 29 [v] h fun y h' => Tl h' y (keysE L) ∧ Stay nowhere h h' := by
  refine fn_go c29 (by intro hb; cases hb) (by simp) (by simp) fun Q hQ => ?_
  simp only [slotsF, Nat.reduceAdd]
  repeat' (first
    | refine St.h ?_
    | simp (disch := first | omega | (simp only [lnv]; omega)) only [wlk, ↓get_put', ↓reduceIte, seval, hL.ln]
    | (with_reducible (first | apply cd_split | apply gd_split)) <;> (intro hc; (try simp only [hcn] at hc); (try simp only [hc]); (try simp only [hcl] at hc); try omega))
  refine Ok.lp (fun m t g => ∃ (j : Nat) (w : V), m = L.length - j ∧ j ≤ L.length ∧ get 0 t = v ∧ get 3 t = w ∧ get 6 t = v ∧ get 7 t = .i .i64 (L.length : Int) ∧ get 8 t = .i .i64 (j : Int) ∧ Stay nowhere h g ∧ Vb g (B.val h.next) 9 w ((keysU L j).map sv)) L.length ?_ ?_
  · simp (disch := first | omega | (simp only [lnv]; omega)) only [wlk, ↓get_put', ↓reduceIte, seval]
    refine ⟨0, .l0, by omega, by omega, ?_⟩
    refine ⟨?_, ?_, ?_, ?_, ?_, Stay.refl _ _, Vb.nil _ _ _⟩
    all_goals first | trivial | rfl
  rintro I hI m t g ⟨j, w, rfl, hj, f0, f3, f6, f7, f8, st, vb⟩
  have hfg := st.fl hf
  have hLg := hL.grow st
  have hkl := keysU_len L j
  by_cases hjl : j < L.length
  case neg =>
    obtain rfl : j = L.length := by omega
    repeat' (first
      | refine St.h ?_
      | simp (disch := first | omega | (simp only [lnv]; omega)) only [wlk, ↓get_put', ↓reduceIte, seval, f0, f3, f6, f7, f8]
      | (with_reducible (first | apply cd_split | apply gd_split)) <;> (intro hc; (try simp only [hcn] at hc); (try simp only [hc]); (try simp only [hcl] at hc); try omega))
    subst hQ
    exact ⟨vb.lst, st⟩
  repeat' (first
    | refine St.h ?_
    | simp (disch := first | omega | (simp only [lnv]; omega)) only [wlk, ↓get_put', ↓reduceIte, seval, f0, f3, f6, f7, f8, hL.ix, hLg.la, Int.toNat_natCast]
    | (with_reducible (first | apply cd_split | apply gd_split)) <;> (intro hc; (try simp only [hcn] at hc); (try simp only [hc]); (try simp only [hcl] at hc); try omega))
  refine AL.own (by simp) hfg fun g1 t1 m1 o1 => ?_
  have hfg1 := t1.fl hfg
  repeat' (first
    | refine St.h ?_
    | simp (disch := first | omega | (simp only [lnv]; omega)) only [wlk, ↓get_put', ↓reduceIte, seval, f0, f3, f6, f7, f8, hL.ix, hLg.la, Int.toNat_natCast]
    | (with_reducible (first | apply cd_split | apply gd_split)) <;> (intro hc; (try simp only [hcn] at hc); (try simp only [hc]); (try simp only [hcl] at hc); try omega))
  refine ST.all o1 rfl rfl (by simp) (by simp) fun g2 o2 t2 => ?_
  have t12 : Stay nowhere g g2 := t1.past' t2 fun q hq => by rw [hq]; exact Nat.le_refl _
  have hfg2 := t12.fl hfg
  have hL2 := hLg.grow t12
  have st2 := st.trans t12
  have vb2 := vb.stay t12 fun _ _ h => h
  have hje : ((j : Int) - 1).toNat = j - 1 := by omega
  have hks : keysU L (j + 1) = keysU L j ++ if j = 0 ∨ (L.getD (j - 1) default).key ≠ (L.getD j default).key then [(L.getD j default).key] else [] := rfl
  by_cases hnew : j = 0 ∨ (L.getD (j - 1) default).key ≠ (L.getD j default).key
  case neg =>
    rw [if_neg hnew, List.append_nil] at hks
    have hnew : ¬ j = 0 ∧ (L.getD (j - 1) default).key = (L.getD j default).key := ⟨fun h => hnew (.inl h), Classical.byContradiction fun h => hnew (.inr h)⟩
    have hn0 : ((j : Int) = 0) = False := eq_false (by omega)
    repeat' (first
      | refine St.h ?_
      | simp (disch := first | omega | (simp only [lnv]; omega)) only [wlk, ↓get_put', ↓reduceIte, seval, f0, f3, f6, f7, f8, hL.ix, hL2.l0, o2.row.l1, hn0, hje, hnew.2, Int.toNat_natCast]
      | (with_reducible (first | apply cd_split | apply gd_split)) <;> (intro hc; (try simp only [hcn] at hc); (try simp only [hc]); (try simp only [hcl] at hc); try omega))
    refine lp_next hI (L.length - (j + 1)) (by omega) ⟨j + 1, w, rfl, by omega, by simp (disch := first | omega | (simp only [lnv]; omega)) only [wlk, ↓get_put', ↓reduceIte, seval, f0], by simp (disch := first | omega | (simp only [lnv]; omega)) only [wlk, ↓get_put', ↓reduceIte, seval, f3], by simp (disch := first | omega | (simp only [lnv]; omega)) only [wlk, ↓get_put', ↓reduceIte, seval, f6], by simp (disch := first | omega | (simp only [lnv]; omega)) only [wlk, ↓get_put', ↓reduceIte, seval, f7], by simp (disch := first | omega | (simp only [lnv]; omega)) only [wlk, ↓get_put', ↓reduceIte, seval, f8]; rfl, st2, by rw [hks]; exact vb2⟩
  case pos =>
    rw [if_pos hnew] at hks
    by_cases hj0 : j = 0
    case pos =>
      have hn0 : ((j : Int) = 0) = True := eq_true (by omega)
      repeat' (first
        | refine St.h ?_
        | simp (disch := first | omega | (simp only [lnv]; omega)) only [wlk, ↓get_put', ↓reduceIte, seval, f0, f3, f6, f7, f8, hL.ix, hL2.l0, o2.row.l1, hn0, hje, Int.toNat_natCast]
        | (with_reducible (first | apply cd_split | apply gd_split)) <;> (intro hc; (try simp only [hcn] at hc); (try simp only [hc]); (try simp only [hcl] at hc); try omega))
      refine AL.push vb2 (fun u => by simp (disch := first | omega | (simp only [lnv]; omega)) only [wlk, ↓get_put', ↓reduceIte, seval, f3]) rfl rfl hfg2 st2.next (by rw [List.length_map]; omega) fun v' g3 u3 vb' s3 hi3 tp => ?_
      repeat' (first
        | refine St.h ?_
        | simp (disch := first | omega | (simp only [lnv]; omega)) only [wlk, ↓get_put', ↓reduceIte, seval, f0, f3, f6, f7, f8]
        | (with_reducible (first | apply cd_split | apply gd_split)) <;> (intro hc; (try simp only [hcn] at hc); (try simp only [hc]); (try simp only [hcl] at hc); try omega))
      refine lp_next hI (L.length - (j + 1)) (by omega) ⟨j + 1, v', rfl, by omega, by simp (disch := first | omega | (simp only [lnv]; omega)) only [wlk, ↓get_put', ↓reduceIte, seval, f0], by simp (disch := first | omega | (simp only [lnv]; omega)) only [wlk, ↓get_put', ↓reduceIte, seval], by simp (disch := first | omega | (simp only [lnv]; omega)) only [wlk, ↓get_put', ↓reduceIte, seval, f6], by simp (disch := first | omega | (simp only [lnv]; omega)) only [wlk, ↓get_put', ↓reduceIte, seval, f7], by simp (disch := first | omega | (simp only [lnv]; omega)) only [wlk, ↓get_put', ↓reduceIte, seval, f8]; rfl, st2.past' s3 fun q hq => vb2.own q hq, by rw [hks, List.map_append]; exact vb'⟩
    case neg =>
      have hn0 : ((j : Int) = 0) = False := eq_false (by omega)
      have hd : decide ((L.getD (j - 1) default).key = (L.getD j default).key) = false := decide_eq_false (hnew.resolve_left hj0)
      repeat' (first
        | refine St.h ?_
        | simp (disch := first | omega | (simp only [lnv]; omega)) only [wlk, ↓get_put', ↓reduceIte, seval, f0, f3, f6, f7, f8, hL.ix, hL2.l0, o2.row.l1, hn0, hje, hd, Int.toNat_natCast]
        | (with_reducible (first | apply cd_split | apply gd_split)) <;> (intro hc; (try simp only [hcn] at hc); (try simp only [hc]); (try simp only [hcl] at hc); try omega))
      refine AL.push vb2 (fun u => by simp (disch := first | omega | (simp only [lnv]; omega)) only [wlk, ↓get_put', ↓reduceIte, seval, f3]) rfl rfl hfg2 st2.next (by rw [List.length_map]; omega) fun v' g3 u3 vb' s3 hi3 tp => ?_
      repeat' (first
        | refine St.h ?_
        | simp (disch := first | omega | (simp only [lnv]; omega)) only [wlk, ↓get_put', ↓reduceIte, seval, f0, f3, f6, f7, f8]
        | (with_reducible (first | apply cd_split | apply gd_split)) <;> (intro hc; (try simp only [hcn] at hc); (try simp only [hc]); (try simp only [hcl] at hc); try omega))
      refine lp_next hI (L.length - (j + 1)) (by omega) ⟨j + 1, v', rfl, by omega, by simp (disch := first | omega | (simp only [lnv]; omega)) only [wlk, ↓get_put', ↓reduceIte, seval, f0], by simp (disch := first | omega | (simp only [lnv]; omega)) only [wlk, ↓get_put', ↓reduceIte, seval], by simp (disch := first | omega | (simp only [lnv]; omega)) only [wlk, ↓get_put', ↓reduceIte, seval, f6], by simp (disch := first | omega | (simp only [lnv]; omega)) only [wlk, ↓get_put', ↓reduceIte, seval, f7], by simp (disch := first | omega | (simp only [lnv]; omega)) only [wlk, ↓get_put', ↓reduceIte, seval, f8]; rfl, st2.past' s3 fun q hq => vb2.own q hq, by rw [hks, List.map_append]; exact vb'⟩
theorem indexOf_ok {h : H} {v : V} {L : List Ent} (hP : Ps h v ((blksE L).map pcOf)) (ho : okB L) (hl : L.length ≤ 100) (hf : B.val h.floor ≤ B.val h.next) : FnOk Try.prog 27 [.i .i64 (L.length : Int), v] h fun y h' => y = sv (idxB L) ∧ Stay nowhere h h' := by
  refine fn_go c27 (by intro hb; cases hb) (by simp) (by simp) fun Q hQ => ?_
  simp only [slotsF, Nat.reduceAdd]
  have hm : ((blksE L).map pcOf).length = (blksE L).length := List.length_map _
  have hbl := blksE_len L
  repeat' (first
    | refine St.h ?_
    | simp (disch := first | omega | (simp only [lnv]; omega)) only [wlk, ↓get_put', ↓reduceIte, seval]
    | (with_reducible (first | apply cd_split | apply gd_split)) <;> (intro hc; (try simp only [hcn] at hc); (try simp only [hc]); (try simp only [hcl] at hc); try omega))
  refine AL.ownE (by simp) hf fun h1 s1 n1 o1 => ?_
  have hf1 := s1.fl hf
  have sb : Sb h1 (B.val h.next) 58 5 h.next (fun i => i = h.next) [] :=
    ⟨⟨.p0, .l0, o1, .inl rfl, Buf.nil _ _ _, fun i hi => absurd hi (by rintro ⟨_, _, _, _, _, e⟩; cases e), by rintro ⟨_, _, _, _, _, e⟩; cases e⟩, rfl, fun i hi => by rw [hi]; exact ⟨Nat.le_refl _, by omega⟩⟩
  have n1' := numB_len (n := L.length) (by omega)
  have n2' := numB_len (n := (blksE L).length) (by omega)
  repeat' (first
    | refine St.h ?_
    | simp (disch := first | omega | (simp only [lnv]; omega)) only [wlk, ↓get_put', ↓reduceIte, seval]
    | (with_reducible (first | apply cd_split | apply gd_split)) <;> (intro hc; (try simp only [hcn] at hc); (try simp only [hc]); (try simp only [hcl] at hc); try omega))
  refine CL.stay (num_ok (by omega) hf1) fun h2 s2 => ?_
  rw [Int.toNat_natCast]
  have hf2 := s2.fl hf1
  have sb2 := sb.stay s2 fun _ _ h => h
  repeat' (first
    | refine St.h ?_
    | simp (disch := first | omega | (simp only [lnv]; omega)) only [wlk, ↓get_put', ↓reduceIte, seval]
    | (with_reducible (first | apply cd_split | apply gd_split)) <;> (intro hc; (try simp only [hcn] at hc); (try simp only [hc]); (try simp only [hcl] at hc); try omega))
  refine CL.mk (writeString_ok sb2 (by simp; omega) hf2) ?_
  rintro _ h3 ⟨U3, sb3, s3, hU3⟩
  have s03 := (s1.trans s2).past' s3 fun q hq => (sb2.lo q hq).1
  have hf3 := s03.fl hf
  repeat' (first
    | refine St.h ?_
    | simp (disch := first | omega | (simp only [lnv]; omega)) only [wlk, ↓get_put', ↓reduceIte, seval, hP.ln, hm]
    | (with_reducible (first | apply cd_split | apply gd_split)) <;> (intro hc; (try simp only [hcn] at hc); (try simp only [hc]); (try simp only [hcl] at hc); try omega))
  refine CL.stay (num_ok (by omega) hf3) fun h4 s4 => ?_
  rw [Int.toNat_natCast]
  have hf4 := s4.fl hf3
  have sb4 := sb3.stay s4 fun _ _ h => h
  repeat' (first
    | refine St.h ?_
    | simp (disch := first | omega | (simp only [lnv]; omega)) only [wlk, ↓get_put', ↓reduceIte, seval]
    | (with_reducible (first | apply cd_split | apply gd_split)) <;> (intro hc; (try simp only [hcn] at hc); (try simp only [hc]); (try simp only [hcl] at hc); try omega))
  refine CL.mk (writeString_ok sb4 (by simp; omega) hf4) ?_
  rintro _ h5 ⟨U5, sb5, s5, hU5⟩
  have s05 := (s03.trans s4).past' s5 fun q hq => (sb4.lo q hq).1
  have hf5 := s05.fl hf
  repeat' (first
    | refine St.h ?_
    | simp (disch := first | omega | (simp only [lnv]; omega)) only [wlk, ↓get_put', ↓reduceIte, seval, hP.ln, hm]
    | (with_reducible (first | apply cd_split | apply gd_split)) <;> (intro hc; (try simp only [hcn] at hc); (try simp only [hc]); (try simp only [hcl] at hc); try omega))
  refine Ok.lp (fun m t g => ∃ (j : Nat) (U : B → Prop), m = (blksE L).length - j ∧ j ≤ (blksE L).length ∧ get 5 t = .p h.next 0 0 2 ∧ get 15 t = v ∧ get 16 t = .i .i64 ((blksE L).length : Int) ∧ get 17 t = .i .i64 (j : Int) ∧ Stay nowhere h g ∧ Sb g (B.val h.next) 58 5 h.next U (idxU L j)) (blksE L).length ?_ ?_
  · simp (disch := first | omega | (simp only [lnv]; omega)) only [wlk, ↓get_put', ↓reduceIte, seval]
    refine ⟨0, U5, by omega, by omega, ?_⟩
    refine ⟨?_, ?_, ?_, ?_, s05, by unfold idxU; simpa using sb5⟩
    all_goals first | trivial | rfl
  rintro I hI m t g ⟨j, U, rfl, hj, f5, f15, f16, f17, st, sbg⟩
  have hfg := st.fl hf
  by_cases hjl : j < (blksE L).length
  case neg =>
    obtain rfl : j = (blksE L).length := by omega
    rw [idxU_all] at sbg
    have hil := (tab_lens ho hl).1
    repeat' (first
      | refine St.h ?_
      | simp (disch := first | omega | (simp only [lnv]; omega)) only [wlk, ↓get_put', ↓reduceIte, seval, f5, f16, f17]
      | (with_reducible (first | apply cd_split | apply gd_split)) <;> (intro hc; (try simp only [hcn] at hc); (try simp only [hc]); (try simp only [hcl] at hc); try omega))
    refine CL.mk (string_ok sbg (by omega)) ?_
    rintro _ g2 ⟨rfl, t2⟩
    repeat' (first
      | refine St.h ?_
      | simp (disch := first | omega | (simp only [lnv]; omega)) only [wlk, ↓get_put', ↓reduceIte, seval]
      | (with_reducible (first | apply cd_split | apply gd_split)) <;> (intro hc; (try simp only [hcn] at hc); (try simp only [hc]); (try simp only [hcl] at hc); try omega))
    subst hQ
    exact ⟨rfl, st.past' t2 fun q hq => (sbg.lo q hq).1⟩
  have hPg := hP.grow st
  have hbj := blks_ok ho _ (getD_mem hjl)
  have hlj := blks_each hjl
  have hp := okB_pos hbj
  have hix := idxU_succ hjl
  have hil := idxU_len ho (by omega) (j + 1) (by omega)
  have hk0 : (firstK ((blksE L).getD j [])).length ≤ 13 := (okB_key hbj (i := 0) (by omega)).2
  have hk1 : (lastK ((blksE L).getD j [])).length ≤ 13 := (okB_key hbj (i := ((blksE L).getD j []).length - 1) (by omega)).2
  have hbn := blkB_len (b := (blksE L).getD j []) (by omega)
  have hpa := pcs_at hjl
  have hoi := one_ilen ((blksE L).getD j [])
  have hoe : oneIx ((blksE L).getD j []) = numB (blkB ((blksE L).getD j [])).length ++ textB (firstK ((blksE L).getD j [])) ++ textB (lastK ((blksE L).getD j [])) := rfl
  rw [hix, List.length_append, hoi] at hil
  rw [hoe] at hix
  generalize (blksE L).getD j [] = bk at *
  have hpb : pcOf bk = ⟨blkB bk, firstK bk, lastK bk⟩ := rfl
  rw [hpb] at hpa
  repeat' (first
    | refine St.h ?_
    | simp (disch := first | omega | (simp only [lnv]; omega)) only [wlk, ↓get_put', ↓reduceIte, seval, f5, f15, f16, f17, hP.ix, hPg.la, hm, hpa, Int.toNat_natCast]
    | (with_reducible (first | apply cd_split | apply gd_split)) <;> (intro hc; (try simp only [hcn] at hc); (try simp only [hc]); (try simp only [hcl] at hc); try omega))
  refine AL.own (by simp) hfg fun g1 t1 m1 o1' => ?_
  have hfg1 := t1.fl hfg
  repeat' (first
    | refine St.h ?_
    | simp (disch := first | omega | (simp only [lnv]; omega)) only [wlk, ↓get_put', ↓reduceIte, seval, f5, f15, f16, f17, hP.ix, hPg.la, hm, hpa, Int.toNat_natCast]
    | (with_reducible (first | apply cd_split | apply gd_split)) <;> (intro hc; (try simp only [hcn] at hc); (try simp only [hc]); (try simp only [hcl] at hc); try omega))
  refine ST.all o1' rfl rfl (by simp) (by simp) fun g2 o2 t2 => ?_
  have t12 : Stay nowhere g g2 := t1.past' t2 fun q hq => by rw [hq]; exact Nat.le_refl _
  have hfg2 := t12.fl hfg
  have sb2' := sbg.stay t12 fun _ _ h => h
  have hnU : ¬ U g.next := fun hu => absurd (sbg.lo _ hu).2 (Nat.lt_irrefl _)
  repeat' (first
    | refine St.h ?_
    | simp (disch := first | omega | (simp only [lnv]; omega)) only [wlk, ↓get_put', ↓reduceIte, seval, f5, f15, f16, f17, o2.row.l1]
    | (with_reducible (first | apply cd_split | apply gd_split)) <;> (intro hc; (try simp only [hcn] at hc); (try simp only [hc]); (try simp only [hcl] at hc); try omega))
  refine CL.stay (num_ok (by omega) hfg2) fun g3 t3 => ?_
  rw [Int.toNat_natCast]
  have hfg3 := t3.fl hfg2
  have sb3' := sb2'.stay t3 fun _ _ h => h
  have o3 := o2.stay t3 fun h => h
  repeat' (first
    | refine St.h ?_
    | simp (disch := first | omega | (simp only [lnv]; omega)) only [wlk, ↓get_put', ↓reduceIte, seval, f5, f15, f16, f17]
    | (with_reducible (first | apply cd_split | apply gd_split)) <;> (intro hc; (try simp only [hcn] at hc); (try simp only [hc]); (try simp only [hcl] at hc); try omega))
  refine CL.mk (writeString_ok sb3' (by omega) hfg3) ?_
  rintro _ g4 ⟨U4, sb4', t4, hU4⟩
  have hfg4 := t4.fl hfg3
  have o4 := o3.stay t4 hnU
  have hn3 : B.val g.next < B.val g3.next := own_lt' o3
  have hnU4 : ¬ U4 g.next := fun hu => by
    rcases hU4 _ hu with h7 | h7
    · exact hnU h7
    · omega
  repeat' (first
    | refine St.h ?_
    | simp (disch := first | omega | (simp only [lnv]; omega)) only [wlk, ↓get_put', ↓reduceIte, seval, f5, f15, f16, f17, o4.row.l1]
    | (with_reducible (first | apply cd_split | apply gd_split)) <;> (intro hc; (try simp only [hcn] at hc); (try simp only [hc]); (try simp only [hcl] at hc); try omega))
  refine CL.stay (text_ok (by omega) hfg4) fun g5 t5 => ?_
  have hfg5 := t5.fl hfg4
  have sb5' := sb4'.stay t5 fun _ _ h => h
  have o5 := o4.stay t5 fun h => h
  have hn5 : B.val g.next < B.val g5.next := own_lt' o5
  repeat' (first
    | refine St.h ?_
    | simp (disch := first | omega | (simp only [lnv]; omega)) only [wlk, ↓get_put', ↓reduceIte, seval, f5, f15, f16, f17]
    | (with_reducible (first | apply cd_split | apply gd_split)) <;> (intro hc; (try simp only [hcn] at hc); (try simp only [hc]); (try simp only [hcl] at hc); try omega))
  refine CL.mk (writeString_ok sb5' (by simp only [List.length_append]; omega) hfg5) ?_
  rintro _ g6 ⟨U6, sb6, t6, hU6⟩
  have hfg6 := t6.fl hfg5
  have o6 := o5.stay t6 hnU4
  have hnU6 : ¬ U6 g.next := fun hu => by
    rcases hU6 _ hu with h7 | h7
    · exact hnU4 h7
    · omega
  repeat' (first
    | refine St.h ?_
    | simp (disch := first | omega | (simp only [lnv]; omega)) only [wlk, ↓get_put', ↓reduceIte, seval, f5, f15, f16, f17, o6.row.l1]
    | (with_reducible (first | apply cd_split | apply gd_split)) <;> (intro hc; (try simp only [hcn] at hc); (try simp only [hc]); (try simp only [hcl] at hc); try omega))
  refine CL.stay (text_ok (by omega) hfg6) fun g7 t7 => ?_
  have hfg7 := t7.fl hfg6
  have sb7 := sb6.stay t7 fun _ _ h => h
  repeat' (first
    | refine St.h ?_
    | simp (disch := first | omega | (simp only [lnv]; omega)) only [wlk, ↓get_put', ↓reduceIte, seval, f5, f15, f16, f17]
    | (with_reducible (first | apply cd_split | apply gd_split)) <;> (intro hc; (try simp only [hcn] at hc); (try simp only [hc]); (try simp only [hcl] at hc); try omega))
  refine CL.mk (writeString_ok sb7 (by simp only [List.length_append]; omega) hfg7) ?_
  rintro _ g8 ⟨U8, sb8, t8, hU8⟩
  have a4 := ((st.trans t12).trans t3).past' t4 fun q hq => (sb3'.lo q hq).1
  have a6 := (a4.trans t5).past' t6 fun q hq => (sb5'.lo q hq).1
  have a8 := (a6.trans t7).past' t8 fun q hq => (sb7.lo q hq).1
  repeat' (first
    | refine St.h ?_
    | simp (disch := first | omega | (simp only [lnv]; omega)) only [wlk, ↓get_put', ↓reduceIte, seval, f5, f15, f16, f17]
    | (with_reducible (first | apply cd_split | apply gd_split)) <;> (intro hc; (try simp only [hcn] at hc); (try simp only [hc]); (try simp only [hcl] at hc); try omega))
  refine lp_next hI ((blksE L).length - (j + 1)) (by omega) ⟨j + 1, U8, rfl, by omega, ?_, ?_, ?_, ?_, a8, by rw [hix]; simpa using sb8⟩
  all_goals (simp (disch := first | omega | (simp only [lnv]; omega)) only [wlk, ↓get_put', ↓reduceIte, seval, f5, f15, f16, f17]; try rfl)
theorem tmake_ok {h : H} {v : V} {L : List Ent} (hL : Es h v L) (hw : SwN 4 v) (hl : L.length ≤ 100) (hf : B.val h.floor ≤ B.val h.next) : FnOk Try.prog 9 [v] h fun y h' => y = .tu [sv (tabE L).1, .i .i64 (tabE L).2] ∧ Stay nowhere h h' := by
  refine fn_go c9 (by intro hb; cases hb) (by simp) (by simp) fun Q hQ => ?_
  simp only [slotsF, Nat.reduceAdd]
  have hm : ((blksE L).map pcOf).length = (blksE L).length := List.length_map _
  have hbl := blksE_len L
  repeat' (first
    | refine St.h ?_
    | simp (disch := first | omega | (simp only [lnv]; omega)) only [wlk, ↓get_put', ↓reduceIte, seval]
    | (with_reducible (first | apply cd_split | apply gd_split)) <;> (intro hc; (try simp only [hcn] at hc); (try simp only [hc]); (try simp only [hcl] at hc); try omega))
  refine CL.stay (bmake_ok hL (by omega) hf) fun h1 s1 => ?_
  have hf1 := s1.fl hf
  have hL1 := hL.grow s1
  by_cases hz : (blkE L).2 = 0
  case neg =>
    repeat' (first
      | refine St.h ?_
      | simp (disch := first | omega | (simp only [lnv]; omega)) only [wlk, ↓get_put', ↓reduceIte, seval, hz]
      | (with_reducible (first | apply cd_split | apply gd_split)) <;> (intro hc; (try simp only [hcn] at hc); (try simp only [hc]); (try simp only [hcl] at hc); try omega))
    subst hQ
    exact ⟨by rw [tabE_bad hz], s1⟩
  have hok : okB L := blkE_zero.1 hz
  rw [tabE_ok hz] at *
  repeat' (first
    | refine St.h ?_
    | simp (disch := first | omega | (simp only [lnv]; omega)) only [wlk, ↓get_put', ↓reduceIte, seval, hz]
    | (with_reducible (first | apply cd_split | apply gd_split)) <;> (intro hc; (try simp only [hcn] at hc); (try simp only [hc]); (try simp only [hcl] at hc); try omega))
  refine CL.mk (pack_ok hL1 hw hl hf1) ?_
  rintro u h2 ⟨hu, hwu, s2⟩
  have hf2 := s2.fl hf1
  have hL2 := hL1.grow s2
  have s02 := s1.trans s2
  repeat' (first
    | refine St.h ?_
    | simp (disch := first | omega | (simp only [lnv]; omega)) only [wlk, ↓get_put', ↓reduceIte, seval]
    | (with_reducible (first | apply cd_split | apply gd_split)) <;> (intro hc; (try simp only [hcn] at hc); (try simp only [hc]); (try simp only [hcl] at hc); try omega))
  refine AL.ownE (by simp) hf2 fun h3 s3 n3 o3 => ?_
  have hf3 := s3.fl hf2
  have sb : Sb h3 (B.val h2.next) 58 5 h2.next (fun i => i = h2.next) [] :=
    ⟨⟨.p0, .l0, o3, .inl rfl, Buf.nil _ _ _, fun i hi => absurd hi (by rintro ⟨_, _, _, _, _, e⟩; cases e), by rintro ⟨_, _, _, _, _, e⟩; cases e⟩, rfl, fun i hi => by rw [hi]; exact ⟨Nat.le_refl _, by omega⟩⟩
  have hu3 := hu.grow s3
  have hbt := bodyT_len (blksE_ne (L := L)) (by rw [blksE_flat]; omega)
  rw [blksE_flat] at hbt
  repeat' (first
    | refine St.h ?_
    | simp (disch := first | omega | (simp only [lnv]; omega)) only [wlk, ↓get_put', ↓reduceIte, seval, hu.ln, hm]
    | (with_reducible (first | apply cd_split | apply gd_split)) <;> (intro hc; (try simp only [hcn] at hc); (try simp only [hc]); (try simp only [hcl] at hc); try omega))
  refine Ok.lp (fun m t g => ∃ (j : Nat) (U : B → Prop), m = (blksE L).length - j ∧ j ≤ (blksE L).length ∧ get 0 t = v ∧ get 6 t = u ∧ get 7 t = .p h2.next 0 0 2 ∧ get 21 t = u ∧ get 22 t = .i .i64 ((blksE L).length : Int) ∧ get 23 t = .i .i64 (j : Int) ∧ Stay nowhere h2 g ∧ Sb g (B.val h2.next) 58 5 h2.next U (bodyT ((blksE L).take j))) (blksE L).length ?_ ?_
  · simp (disch := first | omega | (simp only [lnv]; omega)) only [wlk, ↓get_put', ↓reduceIte, seval]
    refine ⟨0, fun i => i = h2.next, by omega, by omega, ?_⟩
    refine ⟨?_, ?_, ?_, ?_, ?_, ?_, s3, sb⟩
    all_goals first | trivial | rfl
  rintro I hI m t g ⟨j, U, rfl, hj, f0, f6, f7, f21, f22, f23, st, sbg⟩
  have hfg := st.fl hf2
  have hug := hu.grow st
  by_cases hjl : j < (blksE L).length
  case pos =>
    have hlj := blks_each hjl
    have hbs := bodyT_succ hjl
    have hbn := blkB_len (b := (blksE L).getD j []) (by omega)
    have hbt2 : (bodyT ((blksE L).take (j + 1))).length ≤ 10000 := by
      have := offT_le (L := L) (j + 1)
      unfold offT at this; omega
    rw [hbs, List.length_append] at hbt2
    have hpa := pcs_at hjl
    generalize (blksE L).getD j [] = bk at *
    have hpb : pcOf bk = ⟨blkB bk, firstK bk, lastK bk⟩ := rfl
    rw [hpb] at hpa
    repeat' (first
      | refine St.h ?_
      | simp (disch := first | omega | (simp only [lnv]; omega)) only [wlk, ↓get_put', ↓reduceIte, seval, f0, f6, f7, f21, f22, f23, hu.ix, hug.la, hm, hpa, Int.toNat_natCast]
      | (with_reducible (first | apply cd_split | apply gd_split)) <;> (intro hc; (try simp only [hcn] at hc); (try simp only [hc]); (try simp only [hcl] at hc); try omega))
    refine AL.own (by simp) hfg fun g1 t1 m1 o1 => ?_
    have hfg1 := t1.fl hfg
    repeat' (first
      | refine St.h ?_
      | simp (disch := first | omega | (simp only [lnv]; omega)) only [wlk, ↓get_put', ↓reduceIte, seval, f0, f6, f7, f21, f22, f23, hu.ix, hug.la, hm, hpa, Int.toNat_natCast]
      | (with_reducible (first | apply cd_split | apply gd_split)) <;> (intro hc; (try simp only [hcn] at hc); (try simp only [hc]); (try simp only [hcl] at hc); try omega))
    refine ST.all o1 rfl rfl (by simp) (by simp) fun g2 o2 t2 => ?_
    have t12 : Stay nowhere g g2 := t1.past' t2 fun q hq => by rw [hq]; exact Nat.le_refl _
    have hfg2 := t12.fl hfg
    have sb2 := sbg.stay t12 fun _ _ h => h
    repeat' (first
      | refine St.h ?_
      | simp (disch := first | omega | (simp only [lnv]; omega)) only [wlk, ↓get_put', ↓reduceIte, seval, f0, f6, f7, f21, f22, f23, o2.row.l1]
      | (with_reducible (first | apply cd_split | apply gd_split)) <;> (intro hc; (try simp only [hcn] at hc); (try simp only [hc]); (try simp only [hcl] at hc); try omega))
    refine CL.mk (writeString_ok sb2 (by omega) hfg2) ?_
    rintro _ g3 ⟨U3, sb3, t3, hU3⟩
    have a3 := (st.trans t12).past' t3 fun q hq => (sb2.lo q hq).1
    repeat' (first
      | refine St.h ?_
      | simp (disch := first | omega | (simp only [lnv]; omega)) only [wlk, ↓get_put', ↓reduceIte, seval, f0, f6, f7, f21, f22, f23]
      | (with_reducible (first | apply cd_split | apply gd_split)) <;> (intro hc; (try simp only [hcn] at hc); (try simp only [hc]); (try simp only [hcl] at hc); try omega))
    refine lp_next hI ((blksE L).length - (j + 1)) (by omega) ⟨j + 1, U3, rfl, by omega, ?_, ?_, ?_, ?_, ?_, ?_, a3, by rw [hbs]; exact sb3⟩
    all_goals (simp (disch := first | omega | (simp only [lnv]; omega)) only [wlk, ↓get_put', ↓reduceIte, seval, f0, f6, f7, f21, f22, f23]; try rfl)
  obtain rfl : j = (blksE L).length := by omega
  rw [List.take_length] at sbg
  obtain ⟨c1, c2, c3⟩ := tab_lens hok hl
  have hLg := hL2.grow st
  have q1 := sealB_len (idxB L)
  have q2 := sealB_len (sieveB (keysE L))
  have q3 := numB_len (n := (idxB L).length) (by omega)
  have q4 := numB_len (n := (sieveB (keysE L)).length) (by omega)
  have q5 := fourB_len (bodyT (blksE L)).length
  have hkm : ∀ k ∈ keysE L, k.length ≤ 1000000 := fun k hk => by
    obtain ⟨e, he, rfl⟩ := keysE_mem.1 hk
    have := (isE_iff.1 (List.all_eq_true.1 hok.1 e he)).2
    omega
  repeat' (first
    | refine St.h ?_
    | simp (disch := first | omega | (simp only [lnv]; omega)) only [wlk, ↓get_put', ↓reduceIte, seval, f0, f6, f7, f21, f22, f23]
    | (with_reducible (first | apply cd_split | apply gd_split)) <;> (intro hc; (try simp only [hcn] at hc); (try simp only [hc]); (try simp only [hcl] at hc); try omega))
  refine CL.pure (blen_ok sbg) ?_
  repeat' (first
    | refine St.h ?_
    | simp (disch := first | omega | (simp only [lnv]; omega)) only [wlk, ↓get_put', ↓reduceIte, seval, f0, f6, f7, hL.ln]
    | (with_reducible (first | apply cd_split | apply gd_split)) <;> (intro hc; (try simp only [hcn] at hc); (try simp only [hc]); (try simp only [hcl] at hc); try omega))
  refine CL.stay (indexOf_ok hug hok hl hfg) fun g1 t1 => ?_
  have hfg1 := t1.fl hfg
  have sb1 := sbg.stay t1 fun _ _ h => h
  repeat' (first
    | refine St.h ?_
    | simp (disch := first | omega | (simp only [lnv]; omega)) only [wlk, ↓get_put', ↓reduceIte, seval, f0, f6, f7]
    | (with_reducible (first | apply cd_split | apply gd_split)) <;> (intro hc; (try simp only [hcn] at hc); (try simp only [hc]); (try simp only [hcl] at hc); try omega))
  refine CL.stay (seal_ok (by omega) hfg1) fun g2 t2 => ?_
  have hfg2 := t2.fl hfg1
  have sb2 := sb1.stay t2 fun _ _ h => h
  repeat' (first
    | refine St.h ?_
    | simp (disch := first | omega | (simp only [lnv]; omega)) only [wlk, ↓get_put', ↓reduceIte, seval, f0, f6, f7]
    | (with_reducible (first | apply cd_split | apply gd_split)) <;> (intro hc; (try simp only [hcn] at hc); (try simp only [hc]); (try simp only [hcl] at hc); try omega))
  refine CL.mk (writeString_ok sb2 (by omega) hfg2) ?_
  rintro _ g3 ⟨U3, sb3, t3, hU3⟩
  have a3 := ((st.trans t1).trans t2).past' t3 fun q hq => (sb2.lo q hq).1
  have hfg3 := a3.fl hf2
  repeat' (first
    | refine St.h ?_
    | simp (disch := first | omega | (simp only [lnv]; omega)) only [wlk, ↓get_put', ↓reduceIte, seval, f0, f6, f7]
    | (with_reducible (first | apply cd_split | apply gd_split)) <;> (intro hc; (try simp only [hcn] at hc); (try simp only [hc]); (try simp only [hcl] at hc); try omega))
  refine CL.mk (keysOf_ok (hL2.grow a3) hl hfg3) ?_
  rintro w g4 ⟨hw4, t4⟩
  have hfg4 := t4.fl hfg3
  have sb4 := sb3.stay t4 fun _ _ h => h
  repeat' (first
    | refine St.h ?_
    | simp (disch := first | omega | (simp only [lnv]; omega)) only [wlk, ↓get_put', ↓reduceIte, seval, f0, f6, f7]
    | (with_reducible (first | apply cd_split | apply gd_split)) <;> (intro hc; (try simp only [hcn] at hc); (try simp only [hc]); (try simp only [hcl] at hc); try omega))
  refine CL.stay (make_ok hw4 (by omega) hkm hfg4) fun g5 t5 => ?_
  have hfg5 := t5.fl hfg4
  have sb5 := sb4.stay t5 fun _ _ h => h
  repeat' (first
    | refine St.h ?_
    | simp (disch := first | omega | (simp only [lnv]; omega)) only [wlk, ↓get_put', ↓reduceIte, seval, f0, f6, f7]
    | (with_reducible (first | apply cd_split | apply gd_split)) <;> (intro hc; (try simp only [hcn] at hc); (try simp only [hc]); (try simp only [hcl] at hc); try omega))
  refine CL.stay (seal_ok (by omega) hfg5) fun g6 t6 => ?_
  have hfg6 := t6.fl hfg5
  have sb6 := sb5.stay t6 fun _ _ h => h
  repeat' (first
    | refine St.h ?_
    | simp (disch := first | omega | (simp only [lnv]; omega)) only [wlk, ↓get_put', ↓reduceIte, seval, f0, f6, f7]
    | (with_reducible (first | apply cd_split | apply gd_split)) <;> (intro hc; (try simp only [hcn] at hc); (try simp only [hc]); (try simp only [hcl] at hc); try omega))
  refine CL.mk (writeString_ok sb6 (by simp only [List.length_append]; omega) hfg6) ?_
  rintro _ g7 ⟨U7, sb7, t7, hU7⟩
  have a7 := (((a3.trans t4).trans t5).trans t6).past' t7 fun q hq => (sb6.lo q hq).1
  have hfg7 := a7.fl hf2
  repeat' (first
    | refine St.h ?_
    | simp (disch := first | omega | (simp only [lnv]; omega)) only [wlk, ↓get_put', ↓reduceIte, seval, f0, f6, f7, wrap_u8m]
    | (with_reducible (first | apply cd_split | apply gd_split)) <;> (intro hc; (try simp only [hcn] at hc); (try simp only [hc]); (try simp only [hcl] at hc); try omega))
  refine AL.own (by simp) hfg7 fun g8 t8 m8 o8 => ?_
  have hfg8 := t8.fl hfg7
  have sb8 := sb7.stay t8 fun _ _ h => h
  have hnU : ¬ U7 g7.next := fun hu => absurd (sb7.lo _ hu).2 (Nat.lt_irrefl _)
  have e4 : ([.i .u8 ((bodyT (blksE L)).length / 16777216 : Int), .i .u8 ((bodyT (blksE L)).length / 65536 : Int), .i .u8 ((bodyT (blksE L)).length / 256 : Int), .i .u8 ((bodyT (blksE L)).length % 256 : Int)] : List V) = (fourB (bodyT (blksE L)).length).map bv := by
    rw [← fourB_cells (by omega)]
    generalize (bodyT (blksE L)).length = n at *
    have a1 : ((n : Int) / 65536) = ((n / 65536 % 256 : Nat) : Int) := by omega
    have a2 : ((n : Int) / 256) = ((n / 256 % 256 : Nat) : Int) := by omega
    rw [a1, a2]; rfl
  rw [e4] at o8
  repeat' (first
    | refine St.h ?_
    | simp (disch := first | omega | (simp only [lnv]; omega)) only [wlk, ↓get_put', ↓reduceIte, seval, f0, f6, f7]
    | (with_reducible (first | apply cd_split | apply gd_split)) <;> (intro hc; (try simp only [hcn] at hc); (try simp only [hc]); (try simp only [hcl] at hc); try omega))
  refine CL.mk (bwrite_ok (c := fourB (bodyT (blksE L)).length) sb8 (by rw [q5]) o8 hnU (by omega) (by simp only [List.length_append]; omega) hfg8) ?_
  rintro _ g9 ⟨U9, sb9, t9, hU9⟩
  have a9 := (a7.trans t8).past' t9 fun q hq => (sb8.lo q hq).1
  repeat' (first
    | refine St.h ?_
    | simp (disch := first | omega | (simp only [lnv]; omega)) only [wlk, ↓get_put', ↓reduceIte, seval, f0, f6, f7]
    | (with_reducible (first | apply cd_split | apply gd_split)) <;> (intro hc; (try simp only [hcn] at hc); (try simp only [hc]); (try simp only [hcl] at hc); try omega))
  refine CL.mk (string_ok sb9 (by simp only [List.length_append]; omega)) ?_
  rintro _ g10 ⟨rfl, t10⟩
  repeat' (first
    | refine St.h ?_
    | simp (disch := first | omega | (simp only [lnv]; omega)) only [wlk, ↓get_put', ↓reduceIte, seval]
    | (with_reducible (first | apply cd_split | apply gd_split)) <;> (intro hc; (try simp only [hcn] at hc); (try simp only [hc]); (try simp only [hcl] at hc); try omega))
  subst hQ
  refine ⟨?_, s02.trans (a9.past' t10 fun q hq => (sb9.lo q hq).1)⟩
  unfold tabB
  simp
end Go.Proofs.Ytiingkpdodbldaa

set_option maxRecDepth 1000000
set_option linter.all false
namespace Go.Proofs.Ytiingkpdodbldaa
open Go Go.Ev
noncomputable abbrev s7_0 : CC := (CC.seq (CC.region [(wB 0 (doMove (O.c (V.b Bool.false))))]) CC.ret)
noncomputable abbrev s7_1 : CC := (CC.cond (tm 46) s7_0 CC.skip)
noncomputable abbrev s7_2 : CC := (CC.seq (CC.region [(wB 41 (doMove (tm 4))), (wB 42 (doPtr Bool.false (tm 41) (O.c V.p0))), (wB 43 (doMove (tm 42))), (wG 43 false 44 (doMove (tm 5))), (wG 43 false 45 (bin2 fNeq (tm 44) (oN 0))), (wB 46 (doPick (tm 43) (O.c (V.b Bool.true)) (tm 45)))]) s7_1)
noncomputable abbrev s7_3 : CC := (CC.seq (CC.draws [(uB 69 (doMove (tm 3))), (uB 70 (bin2 fEql (tm 69) (oN 0))), (uB 71 (doMove (tm 70))), (uG 71 true 72 (doMove (tm 7))), (uG 71 true 73 (bin2 fEql (tm 72) (oN 10))), (uB 74 (doPick (tm 71) (tm 73) (O.c (V.b Bool.false)))), (uB 75 (doMove (tm 74))), (uG 75 true 76 (doMove (tm 9))), (uG 75 true 77 (bin2 fEql (tm 76) (oN 12))), (uB 78 (doPick (tm 75) (tm 77) (O.c (V.b Bool.false)))), (uB 79 (doMove (tm 78))), (uG 79 true 80 (doMove (tm 11))), (uB 81 (doPick (tm 79) (tm 80) (O.c (V.b Bool.false)))), (uB 82 (doMove (tm 81))), (uG 82 true 83 (doMove (tm 12))), (uG 82 true 84 (bin2 fEql (tm 83) (oN 0))), (uB 85 (doPick (tm 82) (tm 84) (O.c (V.b Bool.false)))), (uB 86 (doMove (tm 85))), (uG 86 true 87 (doLoadA 4 (tm 10))), (uG 86 true 88 (doMove (tm 1))), (uG 86 true 89 (doIndexAddr 4 (tm 88) (oN 1))), (uG 86 true 90 (doLoadA 4 (tm 89))), (uG 86 true 91 (doSEq [KD.s, KD.i, KD.b, KD.s] Bool.false (tm 87) (tm 90))), (uB 92 (doPick (tm 86) (tm 91) (O.c (V.b Bool.false)))), (uB 93 (doMove (tm 92))), (uG 93 true 94 (doMove (tm 14))), (uG 93 true 95 (doNot (tm 94))), (uB 96 (doPick (tm 93) (tm 95) (O.c (V.b Bool.false)))), (uB 97 (doMove (tm 96))), (uG 97 true 98 (doMove (tm 15))), (uG 97 true 99 (bin2 fEql (tm 98) (oN 0))), (uB 100 (doPick (tm 97) (tm 99) (O.c (V.b Bool.false)))), (uB 101 (doMove (tm 100))), (uG 101 true 102 (doMove (tm 17))), (uG 101 true 103 (bin2 fEql (tm 102) (oN 0))), (uB 104 (doPick (tm 101) (tm 103) (O.c (V.b Bool.false)))), (uB 105 (doMove (tm 104))), (uG 105 true 106 (doMove (tm 16))), (uG 105 true 107 (doMove (tm 1))), (wG 105 true 108 (doCall 17 [(tm 106), (tm 107)])), (uB 109 (doPick (tm 105) (tm 108) (O.c (V.b Bool.false)))), (uB 110 (doMove (tm 109))), (uG 110 true 111 (doMove (tm 4))), (wG 110 true 112 (doCall 19 [(tm 111)])), (uG 110 true 113 (bin2 fEql (tm 112) (oN 2))), (uB 114 (doPick (tm 110) (tm 113) (O.c (V.b Bool.false)))), (uB 115 (doMove (tm 114))), (uG 115 true 116 (doMove (tm 4))), (wG 115 true 117 (doCall 20 [(tm 116)])), (uG 115 true 118 (bin2 fEql (tm 117) (oN 1))), (uB 119 (doPick (tm 115) (tm 118) (O.c (V.b Bool.false)))), (uB 120 (doMove (tm 119))), (uG 120 true 121 (doMove (tm 18))), (uG 120 true 122 (doSCmp eqS (tm 121) (O.c (V.s 1 97)))), (uB 123 (doPick (tm 120) (tm 122) (O.c (V.b Bool.false)))), (uB 124 (doMove (tm 123))), (uG 124 true 125 (doMove (tm 19))), (uG 124 true 126 (doSCmp eqS (tm 125) (O.c (V.s 1 97)))), (uB 127 (doPick (tm 124) (tm 126) (O.c (V.b Bool.false)))), (uB 0 (doMove (tm 127)))]) CC.ret)
noncomputable abbrev s7_4 : CC := (CC.seq (CC.region [(wB 65 (doMove (tm 4))), (wB 66 (doCall 16 [(tm 65)])), (wB 64 (doMove (tm 66))), (wB 67 (doExtract 0 (tm 64))), (wB 68 (doExtract 1 (tm 64))), (wB 18 (doMove (tm 67))), (wB 19 (doMove (tm 68)))]) s7_3)
noncomputable abbrev s7_5 : CC := (CC.seq (CC.region [(wB 60 (doMove (tm 4))), (wB 61 (doCall 15 [(tm 60)])), (wB 59 (doMove (tm 61))), (wB 62 (doExtract 0 (tm 59))), (wB 63 (doExtract 1 (tm 59))), (wB 16 (doMove (tm 62))), (wB 17 (doMove (tm 63)))]) s7_4)
noncomputable abbrev s7_6 : CC := (CC.seq (CC.region [(wB 54 (doMove (tm 4))), (wB 55 (doCall 12 [(tm 54), (O.c (V.s 1 98)), (oN 9)])), (wB 53 (doMove (tm 55))), (wB 56 (doExtract 0 (tm 53))), (wB 57 (doExtract 1 (tm 53))), (wB 58 (doExtract 2 (tm 53))), (wB 13 (doAlloc 34 [(V.s 0 0), (V.i IntKind.i64 (Int.ofNat 0)), (V.b Bool.false), (V.s 0 0)])), (CO.mk G.none D.none Bool.true (CR.mk (doStore 4 (tm 13) (tm 56)))), (wB 14 (doMove (tm 57))), (wB 15 (doMove (tm 58)))]) s7_5)
noncomputable abbrev s7_7 : CC := (CC.seq (CC.region [(wB 48 (doMove (tm 4))), (wB 49 (doCall 12 [(tm 48), (O.c (V.s 1 97)), (oN 1)])), (wB 47 (doMove (tm 49))), (wB 50 (doExtract 0 (tm 47))), (wB 51 (doExtract 1 (tm 47))), (wB 52 (doExtract 2 (tm 47))), (wB 10 (doAlloc 34 [(V.s 0 0), (V.i IntKind.i64 (Int.ofNat 0)), (V.b Bool.false), (V.s 0 0)])), (CO.mk G.none D.none Bool.true (CR.mk (doStore 4 (tm 10) (tm 50)))), (wB 11 (doMove (tm 51))), (wB 12 (doMove (tm 52)))]) s7_6)
noncomputable abbrev s7_8 : CC := (CC.seq s7_2 s7_7)
noncomputable abbrev s7_9 : CC := (CC.seq (CC.region [(wB 38 (doCall 11 [(O.c (V.s 3 6382179))])), (wB 37 (doMove (tm 38))), (wB 39 (doExtract 0 (tm 37))), (wB 40 (doExtract 1 (tm 37))), (wB 8 (doMove (tm 39))), (wB 9 (doMove (tm 40)))]) s7_8)
noncomputable abbrev s7_10 : CC := (CC.seq (CC.region [(wB 34 (doCall 9 [(O.c V.l0)])), (wB 33 (doMove (tm 34))), (wB 35 (doExtract 0 (tm 33))), (wB 36 (doExtract 1 (tm 33))), (wB 6 (doMove (tm 35))), (wB 7 (doMove (tm 36)))]) s7_9)
noncomputable abbrev s7_11 : CC := (CC.seq (CC.region [(wB 29 (doMove (tm 2))), (wB 30 (doCall 11 [(tm 29)])), (wB 28 (doMove (tm 30))), (wB 31 (doExtract 0 (tm 28))), (wB 32 (doExtract 1 (tm 28))), (wB 4 (doMove (tm 31))), (wB 5 (doMove (tm 32)))]) s7_10)
noncomputable abbrev s7_12 : CC := (CC.seq (CC.region [(wB 24 (doMove (tm 1))), (wB 25 (doCall 9 [(tm 24)])), (wB 23 (doMove (tm 25))), (wB 26 (doExtract 0 (tm 23))), (wB 27 (doExtract 1 (tm 23))), (wB 2 (doMove (tm 26))), (wB 3 (doMove (tm 27)))]) s7_11)
noncomputable abbrev s7_13 : CC := (CC.seq (CC.region [(wB 20 (doBuild [(V.s 0 0), (V.i IntKind.i64 (Int.ofNat 0)), (V.b Bool.false), (V.s 0 0)] [(Pt.mk 0 1 (O.c (V.s 1 97))), (Pt.mk 1 1 (oN 2)), (Pt.mk 3 1 (O.c (V.s 1 120)))])), (wB 21 (doBuild [(V.s 0 0), (V.i IntKind.i64 (Int.ofNat 0)), (V.b Bool.false), (V.s 0 0)] [(Pt.mk 0 1 (O.c (V.s 1 97))), (Pt.mk 1 1 (oN 1)), (Pt.mk 2 1 (O.c (V.b Bool.true)))])), (wB 22 (doBuildSlice 34 2 [(V.s 0 0), (V.i IntKind.i64 (Int.ofNat 0)), (V.b Bool.false), (V.s 0 0), (V.s 0 0), (V.i IntKind.i64 (Int.ofNat 0)), (V.b Bool.false), (V.s 0 0)] [(Pt.mk 0 4 (tm 20)), (Pt.mk 4 4 (tm 21))])), (wB 1 (doMove (tm 22)))]) s7_12)
noncomputable abbrev b7 : CC := (CC.seq (CC.region [(wB 0 (doMove (O.c (V.b Bool.false))))]) s7_13)
theorem c7 : compFn Try.prog 7 = ⟨128, b7, [(Rs.tmp (slOf 0))]⟩ := by kernel_rfl
noncomputable abbrev s3_0 : CC := (CC.seq (CC.region [(wB 2 (doMove (O.c (V.b Bool.false))))]) CC.ret)
noncomputable abbrev s3_1 : CC := (CC.cond (tm 8) s3_0 CC.skip)
noncomputable abbrev s3_2 : CC := (CC.seq (CC.region [(wB 7 (doCall 7 [])), (wB 8 (doNot (tm 7)))]) s3_1)
noncomputable abbrev s3_3 : CC := (CC.seq (CC.region [(wB 2 (doMove (O.c (V.b Bool.true))))]) CC.ret)
noncomputable abbrev s3_4 : CC := (CC.cond (tm 11) s3_3 CC.skip)
noncomputable abbrev s3_5 : CC := (CC.seq (CC.region [(wB 9 (doMove (tm 0))), (wB 10 (doCall 8 [(tm 9)])), (wB 11 (doNot (tm 10)))]) s3_4)
noncomputable abbrev s3_6 : CC := (CC.seq (CC.region [(wB 22 (doMove (tm 3))), (wB 23 (doMove (tm 5))), (wB 24 (doSCmp eqS (tm 22) (tm 23))), (wB 25 (doMove (tm 24))), (wG 25 true 26 (doMove (tm 4))), (wG 25 true 27 (doMove (tm 6))), (wG 25 true 28 (bin2 fEql (tm 26) (tm 27))), (wB 29 (doPick (tm 25) (tm 28) (O.c (V.b Bool.false)))), (wB 2 (doMove (tm 29)))]) CC.ret)
noncomputable abbrev s3_7 : CC := (CC.seq (CC.region [(wB 18 (doMove (tm 0))), (wB 19 (doCall 10 [(tm 18)])), (wB 17 (doMove (tm 19))), (wB 20 (doExtract 0 (tm 17))), (wB 21 (doExtract 1 (tm 17))), (wB 5 (doMove (tm 20))), (wB 6 (doMove (tm 21)))]) s3_6)
noncomputable abbrev s3_8 : CC := (CC.seq (CC.region [(wB 13 (doMove (tm 0))), (wB 14 (doCall 9 [(tm 13)])), (wB 12 (doMove (tm 14))), (wB 15 (doExtract 0 (tm 12))), (wB 16 (doExtract 1 (tm 12))), (wB 3 (doMove (tm 15))), (wB 4 (doMove (tm 16)))]) s3_7)
noncomputable abbrev s3_9 : CC := (CC.seq s3_5 s3_8)
noncomputable abbrev s3_10 : CC := (CC.seq s3_2 s3_9)
noncomputable abbrev b3 : CC := (CC.seq (CC.region [(wB 2 (doMove (O.c (V.b Bool.false))))]) s3_10)
theorem c3 : compFn Try.prog 3 = ⟨30, b3, [(Rs.tmp (slOf 2))]⟩ := by kernel_rfl
noncomputable abbrev s4_0 : CC := (CC.seq (CC.region [(wB 10 (doMove (O.c (V.b Bool.false))))]) CC.ret)
noncomputable abbrev s4_1 : CC := (CC.cond (tm 31) s4_0 CC.skip)
noncomputable abbrev s4_2 : CC := (CC.seq (CC.region [(wB 30 (doCall 7 [])), (wB 31 (doNot (tm 30)))]) s4_1)
noncomputable abbrev s4_3 : CC := (CC.seq (CC.region [(wB 10 (doMove (O.c (V.b Bool.true))))]) CC.ret)
noncomputable abbrev s4_4 : CC := (CC.cond (tm 49) s4_3 CC.skip)
noncomputable abbrev s4_5 : CC := (CC.seq (CC.region [(wB 32 (doMove (tm 0))), (wB 33 (doCall 8 [(tm 32)])), (wB 34 (doNot (tm 33))), (wB 35 (doMove (tm 34))), (wG 35 false 36 (doMove (tm 1))), (wG 35 false 37 (doLenS (tm 36))), (wG 35 false 38 (bin2 fGtr (tm 37) (oN 20))), (wB 39 (doPick (tm 35) (O.c (V.b Bool.true)) (tm 38))), (wB 40 (doMove (tm 39))), (wG 40 false 41 (doMove (tm 3))), (wG 40 false 42 (doLenS (tm 41))), (wG 40 false 43 (bin2 fGtr (tm 42) (oN 20))), (wB 44 (doPick (tm 40) (O.c (V.b Bool.true)) (tm 43))), (wB 45 (doMove (tm 44))), (wG 45 false 46 (doMove (tm 4))), (wG 45 false 47 (doLenS (tm 46))), (wG 45 false 48 (bin2 fGtr (tm 47) (oN 20))), (wB 49 (doPick (tm 45) (O.c (V.b Bool.true)) (tm 48)))]) s4_4)
noncomputable abbrev s4_6 : CC := (CC.seq (CC.region [(wB 57 (doMove (tm 11))), (wB 58 (doSCmp eqS (tm 57) (O.c (V.s 0 0)))), (wB 10 (doMove (tm 58)))]) CC.ret)
noncomputable abbrev s4_7 : CC := (CC.cond (tm 56) s4_6 CC.skip)
noncomputable abbrev s4_8 : CC := (CC.seq (CC.region [(wB 55 (doMove (tm 12))), (wB 56 (bin2 fNeq (tm 55) (oN 0)))]) s4_7)
noncomputable abbrev s4_9 : CC := (CC.seq (CC.region [(wB 10 (doMove (O.c (V.b Bool.false))))]) CC.ret)
noncomputable abbrev s4_10 : CC := (CC.cond (tm 69) s4_9 CC.skip)
noncomputable abbrev s4_11 : CC := (CC.seq (CC.region [(wB 64 (doMove (tm 14))), (wB 65 (bin2 fNeq (tm 64) (oN 0))), (wB 66 (doMove (tm 65))), (wG 66 false 67 (doMove (tm 13))), (wG 66 false 68 (doPtr Bool.false (tm 67) (O.c V.p0))), (wB 69 (doPick (tm 66) (O.c (V.b Bool.true)) (tm 68)))]) s4_10)
noncomputable abbrev s4_12 : CC := (CC.seq (CC.region [(wB 10 (doMove (O.c (V.b Bool.false))))]) CC.ret)
noncomputable abbrev s4_13 : CC := (CC.cond (tm 170) s4_12 CC.skip)
noncomputable abbrev s4_14 : CC := (CC.seq (CC.region [(wB 102 (doLoadA 4 (tm 15))), (wB 103 (doLoadA 4 (tm 18))), (wB 104 (doSEq [KD.s, KD.i, KD.b, KD.s] Bool.true (tm 102) (tm 103))), (wB 105 (doMove (tm 104))), (wG 105 false 106 (doMove (tm 16))), (wG 105 false 107 (doMove (tm 19))), (wG 105 false 108 (doBool Bool.true (tm 106) (tm 107))), (wB 109 (doPick (tm 105) (O.c (V.b Bool.true)) (tm 108))), (wB 110 (doMove (tm 109))), (wG 110 false 111 (doMove (tm 17))), (wG 110 false 112 (bin2 fNeq (tm 111) (oN 0))), (wB 113 (doPick (tm 110) (O.c (V.b Bool.true)) (tm 112))), (wB 114 (doMove (tm 113))), (wG 114 false 115 (doMove (tm 21))), (wG 114 false 116 (bin2 fNeq (tm 115) (oN 0))), (wB 117 (doPick (tm 114) (O.c (V.b Bool.true)) (tm 116))), (wB 118 (doMove (tm 117))), (wG 118 false 119 (doMove (tm 20))), (wG 118 false 120 (doMove (tm 0))), (wG 118 false 121 (doMove (tm 3))), (wG 118 false 122 (doMove (tm 4))), (wG 118 false 123 (doCall 18 [(tm 120), (tm 121), (tm 122)])), (wG 118 false 124 (doCall 17 [(tm 119), (tm 123)])), (wG 118 false 125 (doNot (tm 124))), (wB 126 (doPick (tm 118) (O.c (V.b Bool.true)) (tm 125))), (wB 127 (doMove (tm 126))), (wG 127 false 128 (doMove (tm 23))), (wG 127 false 129 (bin2 fNeq (tm 128) (oN 0))), (wB 130 (doPick (tm 127) (O.c (V.b Bool.true)) (tm 129))), (wB 131 (doMove (tm 130))), (wG 131 false 132 (doMove (tm 22))), (wG 131 false 133 (doMove (tm 0))), (wG 131 false 134 (doCall 17 [(tm 132), (tm 133)])), (wG 131 false 135 (doNot (tm 134))), (wB 136 (doPick (tm 131) (O.c (V.b Bool.true)) (tm 135))), (wB 137 (doMove (tm 136))), (wG 137 false 138 (doMove (tm 13))), (wG 137 false 139 (doCall 19 [(tm 138)])), (wG 137 false 140 (doMove (tm 0))), (wG 137 false 141 (doLen (tm 140))), (wG 137 false 142 (bin2 fNeq (tm 139) (tm 141))), (wB 143 (doPick (tm 137) (O.c (V.b Bool.true)) (tm 142))), (wB 144 (doMove (tm 143))), (wG 144 false 145 (doMove (tm 13))), (wG 144 false 146 (doCall 20 [(tm 145)])), (wG 144 false 147 (doMove (tm 0))), (wG 144 false 148 (doCall 21 [(tm 147)])), (wG 144 false 149 (doLen (tm 148))), (wG 144 false 150 (bin2 fNeq (tm 146) (tm 149))), (wB 151 (doPick (tm 144) (O.c (V.b Bool.true)) (tm 150))), (wB 152 (doMove (tm 151))), (wG 152 false 153 (doMove (tm 24))), (wG 152 false 154 (doMove (tm 0))), (wG 152 false 155 (doIndexAddr 4 (tm 154) (oN 0))), (wG 152 false 156 (doFieldAddr 0 (tm 155))), (wG 152 false 157 (doLoad (tm 156))), (wG 152 false 158 (doSCmp (fun a b c d => !eqS a b c d) (tm 153) (tm 157))), (wB 159 (doPick (tm 152) (O.c (V.b Bool.true)) (tm 158))), (wB 160 (doMove (tm 159))), (wG 160 false 161 (doMove (tm 25))), (wG 160 false 162 (doMove (tm 0))), (wG 160 false 163 (doMove (tm 0))), (wG 160 false 164 (doLen (tm 163))), (wG 160 false 165 (bin2 fSub (tm 164) (oN 1))), (wG 160 false 166 (doIndexAddr 4 (tm 162) (tm 165))), (wG 160 false 167 (doFieldAddr 0 (tm 166))), (wG 160 false 168 (doLoad (tm 167))), (wG 160 false 169 (doSCmp (fun a b c d => !eqS a b c d) (tm 161) (tm 168))), (wB 170 (doPick (tm 160) (O.c (V.b Bool.true)) (tm 169)))]) s4_13)
noncomputable abbrev s4_15 : CC := (CC.cond (tm 174) CC.skip (CC.exit 0))
noncomputable abbrev s4_16 : CC := (CC.seq (CC.region [(wB 171 (doMove (tm 26))), (wB 172 (doMove (tm 0))), (wB 173 (doLen (tm 172))), (wB 174 (bin2 fLss (tm 171) (tm 173)))]) s4_15)
noncomputable abbrev s4_17 : CC := (CC.seq (CC.region [(wB 10 (doMove (O.c (V.b Bool.false))))]) CC.ret)
noncomputable abbrev s4_18 : CC := (CC.cond (tm 206) s4_17 CC.skip)
noncomputable abbrev s4_19 : CC := (CC.seq (CC.draws [(uB 193 (doMove (tm 29))), (uB 194 (bin2 fNeq (tm 193) (oN 0))), (uB 195 (doMove (tm 194))), (uG 195 false 196 (doMove (tm 28))), (uG 195 false 197 (doNot (tm 196))), (uB 198 (doPick (tm 195) (O.c (V.b Bool.true)) (tm 197))), (uB 199 (doMove (tm 198))), (uG 199 false 200 (doLoadA 4 (tm 27))), (uG 199 false 201 (doMove (tm 0))), (uG 199 false 202 (doMove (tm 26))), (uG 199 false 203 (doIndexAddr 4 (tm 201) (tm 202))), (uG 199 false 204 (doLoadA 4 (tm 203))), (uG 199 false 205 (doSEq [KD.s, KD.i, KD.b, KD.s] Bool.true (tm 200) (tm 204))), (uB 206 (doPick (tm 199) (O.c (V.b Bool.true)) (tm 205)))]) s4_18)
noncomputable abbrev s4_20 : CC := (CC.seq (CC.draws [(uB 178 (doMove (tm 13))), (uB 179 (doMove (tm 0))), (uB 180 (doMove (tm 26))), (uB 181 (doIndexAddr 4 (tm 179) (tm 180))), (uB 182 (doFieldAddr 0 (tm 181))), (uB 183 (doLoad (tm 182))), (uB 184 (doMove (tm 0))), (uB 185 (doMove (tm 26))), (uB 186 (doIndexAddr 4 (tm 184) (tm 185))), (uB 187 (doFieldAddr 1 (tm 186))), (uB 188 (doLoad (tm 187))), (uB 189 (doCall 12 [(tm 178), (tm 183), (tm 188)])), (uB 177 (doMove (tm 189))), (uB 190 (doExtract 0 (tm 177))), (uB 191 (doExtract 1 (tm 177))), (uB 192 (doExtract 2 (tm 177))), (uB 27 (doAlloc 34 [(V.s 0 0), (V.i IntKind.i64 (Int.ofNat 0)), (V.b Bool.false), (V.s 0 0)])), (CO.mk G.none D.none Bool.true (CR.mk (doStore 4 (tm 27) (tm 190)))), (uB 28 (doMove (tm 191))), (uB 29 (doMove (tm 192)))]) s4_19)
noncomputable abbrev s4_21 : CC := (CC.block 1 s4_20)
noncomputable abbrev s4_22 : CC := (CC.region [(wB 175 (doMove (tm 26))), (wB 176 (bin2 fAdd (tm 175) (oN 1))), (wB 26 (doMove (tm 176)))])
noncomputable abbrev s4_23 : CC := (CC.seq s4_21 s4_22)
noncomputable abbrev l4_0 : CC := (CC.seq s4_16 s4_23)
noncomputable abbrev s4_24 : CC := (CC.loop l4_0)
noncomputable abbrev s4_25 : CC := (CC.block 0 s4_24)
noncomputable abbrev s4_26 : CC := (CC.seq (CC.region [(wB 26 (doMove (oN 0)))]) s4_25)
noncomputable abbrev s4_27 : CC := (CC.seq (CC.region [(wB 10 (doMove (O.c (V.b Bool.true))))]) CC.ret)
noncomputable abbrev s4_28 : CC := (CC.seq s4_26 s4_27)
noncomputable abbrev s4_29 : CC := (CC.seq s4_14 s4_28)
noncomputable abbrev s4_30 : CC := (CC.seq (CC.region [(wB 98 (doMove (tm 13))), (wB 99 (doCall 16 [(tm 98)])), (wB 97 (doMove (tm 99))), (wB 100 (doExtract 0 (tm 97))), (wB 101 (doExtract 1 (tm 97))), (wB 24 (doMove (tm 100))), (wB 25 (doMove (tm 101)))]) s4_29)
noncomputable abbrev s4_31 : CC := (CC.seq (CC.region [(wB 93 (doMove (tm 13))), (wB 94 (doCall 15 [(tm 93)])), (wB 92 (doMove (tm 94))), (wB 95 (doExtract 0 (tm 92))), (wB 96 (doExtract 1 (tm 92))), (wB 22 (doMove (tm 95))), (wB 23 (doMove (tm 96)))]) s4_30)
noncomputable abbrev s4_32 : CC := (CC.seq (CC.region [(wB 86 (doMove (tm 13))), (wB 87 (doMove (tm 3))), (wB 88 (doMove (tm 4))), (wB 89 (doCall 14 [(tm 86), (tm 87), (tm 88)])), (wB 85 (doMove (tm 89))), (wB 90 (doExtract 0 (tm 85))), (wB 91 (doExtract 1 (tm 85))), (wB 20 (doMove (tm 90))), (wB 21 (doMove (tm 91)))]) s4_31)
noncomputable abbrev s4_33 : CC := (CC.seq (CC.region [(wB 79 (doMove (tm 0))), (wB 80 (doMove (tm 1))), (wB 81 (doMove (tm 2))), (wB 82 (doCall 13 [(tm 79), (tm 80), (tm 81)])), (wB 78 (doMove (tm 82))), (wB 83 (doExtract 0 (tm 78))), (wB 84 (doExtract 1 (tm 78))), (wB 18 (doAlloc 34 [(V.s 0 0), (V.i IntKind.i64 (Int.ofNat 0)), (V.b Bool.false), (V.s 0 0)])), (CO.mk G.none D.none Bool.true (CR.mk (doStore 4 (tm 18) (tm 83)))), (wB 19 (doMove (tm 84)))]) s4_32)
noncomputable abbrev s4_34 : CC := (CC.seq (CC.region [(wB 71 (doMove (tm 13))), (wB 72 (doMove (tm 1))), (wB 73 (doMove (tm 2))), (wB 74 (doCall 12 [(tm 71), (tm 72), (tm 73)])), (wB 70 (doMove (tm 74))), (wB 75 (doExtract 0 (tm 70))), (wB 76 (doExtract 1 (tm 70))), (wB 77 (doExtract 2 (tm 70))), (wB 15 (doAlloc 34 [(V.s 0 0), (V.i IntKind.i64 (Int.ofNat 0)), (V.b Bool.false), (V.s 0 0)])), (CO.mk G.none D.none Bool.true (CR.mk (doStore 4 (tm 15) (tm 75)))), (wB 16 (doMove (tm 76))), (wB 17 (doMove (tm 77)))]) s4_33)
noncomputable abbrev s4_35 : CC := (CC.seq s4_11 s4_34)
noncomputable abbrev s4_36 : CC := (CC.seq (CC.region [(wB 60 (doMove (tm 11))), (wB 61 (doCall 11 [(tm 60)])), (wB 59 (doMove (tm 61))), (wB 62 (doExtract 0 (tm 59))), (wB 63 (doExtract 1 (tm 59))), (wB 13 (doMove (tm 62))), (wB 14 (doMove (tm 63)))]) s4_35)
noncomputable abbrev s4_37 : CC := (CC.seq s4_8 s4_36)
noncomputable abbrev s4_38 : CC := (CC.seq (CC.region [(wB 51 (doMove (tm 0))), (wB 52 (doCall 9 [(tm 51)])), (wB 50 (doMove (tm 52))), (wB 53 (doExtract 0 (tm 50))), (wB 54 (doExtract 1 (tm 50))), (wB 11 (doMove (tm 53))), (wB 12 (doMove (tm 54)))]) s4_37)
noncomputable abbrev s4_39 : CC := (CC.seq s4_5 s4_38)
noncomputable abbrev s4_40 : CC := (CC.seq s4_2 s4_39)
noncomputable abbrev b4 : CC := (CC.seq (CC.region [(wB 10 (doMove (O.c (V.b Bool.false))))]) s4_40)
theorem c4 : compFn Try.prog 4 = ⟨207, b4, [(Rs.tmp (slOf 10))]⟩ := by kernel_rfl
noncomputable abbrev s5_0 : CC := (CC.seq (CC.region [(wB 6 (doMove (O.c (V.b Bool.false))))]) CC.ret)
noncomputable abbrev s5_1 : CC := (CC.cond (tm 15) s5_0 CC.skip)
noncomputable abbrev s5_2 : CC := (CC.seq (CC.region [(wB 14 (doCall 7 [])), (wB 15 (doNot (tm 14)))]) s5_1)
noncomputable abbrev s5_3 : CC := (CC.seq (CC.region [(wB 6 (doMove (O.c (V.b Bool.true))))]) CC.ret)
noncomputable abbrev s5_4 : CC := (CC.cond (tm 23) s5_3 CC.skip)
noncomputable abbrev s5_5 : CC := (CC.seq (CC.region [(wB 16 (doMove (tm 0))), (wB 17 (doCall 8 [(tm 16)])), (wB 18 (doNot (tm 17))), (wB 19 (doMove (tm 18))), (wG 19 false 20 (doMove (tm 2))), (wG 19 false 21 (doLenS (tm 20))), (wG 19 false 22 (bin2 fGtr (tm 21) (oN 400))), (wB 23 (doPick (tm 19) (O.c (V.b Bool.true)) (tm 22)))]) s5_4)
noncomputable abbrev s5_6 : CC := (CC.seq (CC.region [(wB 36 (doMove (tm 8))), (wB 37 (bin2 fNeq (tm 36) (oN 0))), (wB 6 (doMove (tm 37)))]) CC.ret)
noncomputable abbrev s5_7 : CC := (CC.cond (tm 35) s5_6 CC.skip)
noncomputable abbrev s5_8 : CC := (CC.seq (CC.region [(wB 29 (doMove (tm 8))), (wB 30 (bin2 fNeq (tm 29) (oN 0))), (wB 31 (doMove (tm 30))), (wG 31 false 32 (doMove (tm 7))), (wG 31 false 33 (doLenS (tm 32))), (wG 31 false 34 (bin2 fLss (tm 33) (oN 10))), (wB 35 (doPick (tm 31) (O.c (V.b Bool.true)) (tm 34)))]) s5_7)
noncomputable abbrev s5_9 : CC := (CC.seq (CC.region [(wB 6 (doMove (O.c (V.b Bool.false))))]) CC.ret)
noncomputable abbrev s5_10 : CC := (CC.cond (tm 71) s5_9 CC.skip)
noncomputable abbrev s5_11 : CC := (CC.seq (CC.region [(wB 50 (doMove (tm 9))), (wB 51 (bin2 fLss (tm 50) (oN 4))), (wB 52 (doMove (tm 51))), (wG 52 true 53 (doMove (tm 11))), (wG 52 true 54 (bin2 fNeq (tm 53) (oN 12))), (wB 55 (doPick (tm 52) (tm 54) (O.c (V.b Bool.false)))), (wB 56 (doMove (tm 55))), (wG 56 false 57 (doMove (tm 11))), (wG 56 false 58 (bin2 fNeq (tm 57) (oN 0))), (wG 56 false 59 (doMove (tm 58))), (wG 59 true 60 (doMove (tm 10))), (wG 59 true 61 (doPtr Bool.true (tm 60) (O.c V.p0))), (wG 56 false 62 (doPick (tm 59) (tm 61) (O.c (V.b Bool.false)))), (wB 63 (doPick (tm 56) (O.c (V.b Bool.true)) (tm 62))), (wB 64 (doMove (tm 63))), (wG 64 false 65 (doMove (tm 11))), (wG 64 false 66 (bin2 fEql (tm 65) (oN 0))), (wG 64 false 67 (doMove (tm 66))), (wG 67 true 68 (doMove (tm 10))), (wG 67 true 69 (doPtr Bool.false (tm 68) (O.c V.p0))), (wG 64 false 70 (doPick (tm 67) (tm 69) (O.c (V.b Bool.false)))), (wB 71 (doPick (tm 64) (O.c (V.b Bool.true)) (tm 70)))]) s5_10)
noncomputable abbrev s5_12 : CC := (CC.seq (CC.region [(wB 77 (doMove (tm 13))), (wB 78 (bin2 fEql (tm 77) (oN 0))), (wB 79 (doMove (tm 12))), (wB 80 (doPtr Bool.true (tm 79) (O.c V.p0))), (wB 81 (doBool Bool.false (tm 78) (tm 80))), (wB 82 (doMove (tm 81))), (wG 82 true 83 (doMove (tm 13))), (wG 82 true 84 (bin2 fEql (tm 83) (oN 0))), (wG 82 true 85 (doMove (tm 84))), (wG 85 false 86 (doMove (tm 13))), (wG 85 false 87 (bin2 fEql (tm 86) (oN 12))), (wG 82 true 88 (doPick (tm 85) (O.c (V.b Bool.true)) (tm 87))), (wG 82 true 89 (doMove (tm 88))), (wG 89 false 90 (doMove (tm 13))), (wG 89 false 91 (bin2 fEql (tm 90) (oN 13))), (wG 82 true 92 (doPick (tm 89) (O.c (V.b Bool.true)) (tm 91))), (wG 82 true 93 (doMove (tm 92))), (wG 93 false 94 (doMove (tm 13))), (wG 93 false 95 (bin2 fEql (tm 94) (oN 10))), (wG 82 true 96 (doPick (tm 93) (O.c (V.b Bool.true)) (tm 95))), (wB 97 (doPick (tm 82) (tm 96) (O.c (V.b Bool.false)))), (wB 6 (doMove (tm 97)))]) CC.ret)
noncomputable abbrev s5_13 : CC := (CC.seq (CC.region [(wB 73 (doMove (tm 2))), (wB 74 (doCall 11 [(tm 73)])), (wB 72 (doMove (tm 74))), (wB 75 (doExtract 0 (tm 72))), (wB 76 (doExtract 1 (tm 72))), (wB 12 (doMove (tm 75))), (wB 13 (doMove (tm 76)))]) s5_12)
noncomputable abbrev s5_14 : CC := (CC.seq s5_11 s5_13)
noncomputable abbrev s5_15 : CC := (CC.seq (CC.region [(wB 44 (doMove (tm 7))), (wB 45 (doMove (tm 9))), (wB 46 (doSSlice (tm 44) none (some (tm 45)))), (wB 47 (doCall 11 [(tm 46)])), (wB 43 (doMove (tm 47))), (wB 48 (doExtract 0 (tm 43))), (wB 49 (doExtract 1 (tm 43))), (wB 10 (doMove (tm 48))), (wB 11 (doMove (tm 49)))]) s5_14)
noncomputable abbrev s5_16 : CC := (CC.seq (CC.region [(wB 38 (doMove (tm 1))), (wB 39 (doConv IntKind.i64 (tm 38))), (wB 40 (doMove (tm 7))), (wB 41 (doLenS (tm 40))), (wB 42 (doRem (tm 39) (tm 41))), (wB 9 (doMove (tm 42)))]) s5_15)
noncomputable abbrev s5_17 : CC := (CC.seq s5_8 s5_16)
noncomputable abbrev s5_18 : CC := (CC.seq (CC.region [(wB 25 (doMove (tm 0))), (wB 26 (doCall 9 [(tm 25)])), (wB 24 (doMove (tm 26))), (wB 27 (doExtract 0 (tm 24))), (wB 28 (doExtract 1 (tm 24))), (wB 7 (doMove (tm 27))), (wB 8 (doMove (tm 28)))]) s5_17)
noncomputable abbrev s5_19 : CC := (CC.seq s5_5 s5_18)
noncomputable abbrev s5_20 : CC := (CC.seq s5_2 s5_19)
noncomputable abbrev b5 : CC := (CC.seq (CC.region [(wB 6 (doMove (O.c (V.b Bool.false))))]) s5_20)
theorem c5 : compFn Try.prog 5 = ⟨98, b5, [(Rs.tmp (slOf 6))]⟩ := by kernel_rfl
noncomputable abbrev s6_0 : CC := (CC.seq (CC.region [(wB 6 (doMove (O.c (V.b Bool.false))))]) CC.ret)
noncomputable abbrev s6_1 : CC := (CC.cond (tm 30) s6_0 CC.skip)
noncomputable abbrev s6_2 : CC := (CC.seq (CC.region [(wB 29 (doCall 7 [])), (wB 30 (doNot (tm 29)))]) s6_1)
noncomputable abbrev s6_3 : CC := (CC.cond (tm 41) CC.skip (CC.exit 0))
noncomputable abbrev s6_4 : CC := (CC.seq (CC.region [(wB 39 (doMove (tm 10))), (wB 40 (doMove (tm 7))), (wB 41 (bin2 fLss (tm 39) (tm 40)))]) s6_3)
noncomputable abbrev s6_5 : CC := (CC.cond (tm 46) CC.skip (CC.exit 2))
noncomputable abbrev s6_6 : CC := (CC.seq (CC.region [(wB 45 (doMove (tm 11))), (wB 46 (bin2 fGeq (tm 45) (oN 1)))]) s6_5)
noncomputable abbrev s6_7 : CC := (CC.region [(wB 49 (doMove (tm 9))), (wB 50 (doMove (tm 10))), (wB 51 (bin2 fAdd (oN 97) (tm 50))), (wB 52 (doConv IntKind.u8 (tm 51))), (wB 53 (doBuildSlice 5 1 [(V.i IntKind.u8 (Int.ofNat 0))] [(Pt.mk 0 1 (tm 52))])), (wB 54 (doB2S (tm 53))), (wB 55 (doConcat (O.c (V.s 3 7038329)) (tm 54))), (wB 56 (doMove (tm 11))), (wB 57 (bin2 fMul (oN 10) (tm 56))), (wB 58 (doBuild [(V.s 0 0), (V.i IntKind.i64 (Int.ofNat 0)), (V.b Bool.false), (V.s 0 0)] [(Pt.mk 0 1 (tm 55)), (Pt.mk 1 1 (tm 57)), (Pt.mk 3 1 (O.c (V.s 19 2639974731702377088567223731525629998947132787)))])), (wB 59 (doBuildSlice 34 1 [(V.s 0 0), (V.i IntKind.i64 (Int.ofNat 0)), (V.b Bool.false), (V.s 0 0)] [(Pt.mk 0 4 (tm 58))])), (wB 60 (doAppend 34 4 (tm 49) (tm 59))), (wB 9 (doMove (tm 60)))])
noncomputable abbrev s6_8 : CC := (CC.block 3 s6_7)
noncomputable abbrev s6_9 : CC := (CC.region [(wB 47 (doMove (tm 11))), (wB 48 (bin2 fSub (tm 47) (oN 1))), (wB 11 (doMove (tm 48)))])
noncomputable abbrev s6_10 : CC := (CC.seq s6_8 s6_9)
noncomputable abbrev l6_0 : CC := (CC.seq s6_6 s6_10)
noncomputable abbrev s6_11 : CC := (CC.loop l6_0)
noncomputable abbrev s6_12 : CC := (CC.block 2 s6_11)
noncomputable abbrev s6_13 : CC := (CC.seq (CC.region [(wB 44 (doMove (tm 8))), (wB 11 (doMove (tm 44)))]) s6_12)
noncomputable abbrev s6_14 : CC := (CC.block 1 s6_13)
noncomputable abbrev s6_15 : CC := (CC.region [(wB 42 (doMove (tm 10))), (wB 43 (bin2 fAdd (tm 42) (oN 1))), (wB 10 (doMove (tm 43)))])
noncomputable abbrev s6_16 : CC := (CC.seq s6_14 s6_15)
noncomputable abbrev l6_1 : CC := (CC.seq s6_4 s6_16)
noncomputable abbrev s6_17 : CC := (CC.loop l6_1)
noncomputable abbrev s6_18 : CC := (CC.block 0 s6_17)
noncomputable abbrev s6_19 : CC := (CC.seq (CC.region [(wB 10 (doMove (oN 0)))]) s6_18)
noncomputable abbrev s6_20 : CC := (CC.seq (CC.region [(wB 6 (doMove (O.c (V.b Bool.false))))]) CC.ret)
noncomputable abbrev s6_21 : CC := (CC.cond (tm 93) s6_20 CC.skip)
noncomputable abbrev s6_22 : CC := (CC.seq (CC.region [(wB 71 (doMove (tm 13))), (wB 72 (bin2 fNeq (tm 71) (oN 0))), (wB 73 (doMove (tm 72))), (wG 73 false 74 (doMove (tm 15))), (wG 73 false 75 (bin2 fNeq (tm 74) (oN 0))), (wB 76 (doPick (tm 73) (O.c (V.b Bool.true)) (tm 75))), (wB 77 (doMove (tm 76))), (wG 77 false 78 (doMove (tm 14))), (wG 77 false 79 (doPtr Bool.false (tm 78) (O.c V.p0))), (wB 80 (doPick (tm 77) (O.c (V.b Bool.true)) (tm 79))), (wB 81 (doMove (tm 80))), (wG 81 false 82 (doMove (tm 14))), (wG 81 false 83 (doCall 19 [(tm 82)])), (wG 81 false 84 (doMove (tm 7))), (wG 81 false 85 (doMove (tm 8))), (wG 81 false 86 (bin2 fMul (tm 84) (tm 85))), (wG 81 false 87 (bin2 fNeq (tm 83) (tm 86))), (wB 88 (doPick (tm 81) (O.c (V.b Bool.true)) (tm 87))), (wB 89 (doMove (tm 88))), (wG 89 false 90 (doMove (tm 14))), (wG 89 false 91 (doCall 20 [(tm 90)])), (wG 89 false 92 (bin2 fLss (tm 91) (oN 1))), (wB 93 (doPick (tm 89) (O.c (V.b Bool.true)) (tm 92)))]) s6_21)
noncomputable abbrev s6_23 : CC := (CC.cond (tm 108) CC.skip (CC.exit 4))
noncomputable abbrev s6_24 : CC := (CC.seq (CC.region [(wB 104 (doMove (tm 18))), (wB 105 (doMove (tm 8))), (wB 106 (bin2 fMul (oN 10) (tm 105))), (wB 107 (bin2 fAdd (tm 106) (oN 5))), (wB 108 (bin2 fLeq (tm 104) (tm 107)))]) s6_23)
noncomputable abbrev s6_25 : CC := (CC.seq (CC.region [(wB 6 (doMove (O.c (V.b Bool.false))))]) CC.ret)
noncomputable abbrev s6_26 : CC := (CC.cond (tm 137) s6_25 CC.skip)
noncomputable abbrev s6_27 : CC := (CC.seq (CC.region [(wB 119 (doMove (tm 21))), (wB 120 (bin2 fNeq (tm 119) (oN 0))), (wB 121 (doMove (tm 120))), (wG 121 false 122 (doMove (tm 20))), (wG 121 false 123 (doMove (tm 18))), (wG 121 false 124 (bin2 fGeq (tm 123) (oN 10))), (wG 121 false 125 (doBool Bool.true (tm 122) (tm 124))), (wB 126 (doPick (tm 121) (O.c (V.b Bool.true)) (tm 125))), (wB 127 (doMove (tm 126))), (wG 127 false 128 (doMove (tm 20))), (wG 127 false 129 (doMove (tm 128))), (wG 129 true 130 (doFieldAddr 1 (tm 19))), (wG 129 true 131 (doLoad (tm 130))), (wG 129 true 132 (doMove (tm 18))), (wG 129 true 133 (bin2 fQuo (tm 132) (oN 10))), (wG 129 true 134 (bin2 fMul (tm 133) (oN 10))), (wG 129 true 135 (bin2 fNeq (tm 131) (tm 134))), (wG 127 false 136 (doPick (tm 129) (tm 135) (O.c (V.b Bool.false)))), (wB 137 (doPick (tm 127) (O.c (V.b Bool.true)) (tm 136)))]) s6_26)
noncomputable abbrev s6_28 : CC := (CC.seq (CC.region [(wB 112 (doMove (tm 14))), (wB 113 (doMove (tm 17))), (wB 114 (doMove (tm 18))), (wB 115 (doCall 12 [(tm 112), (tm 113), (tm 114)])), (wB 111 (doMove (tm 115))), (wB 116 (doExtract 0 (tm 111))), (wB 117 (doExtract 1 (tm 111))), (wB 118 (doExtract 2 (tm 111))), (wB 19 (doAlloc 34 [(V.s 0 0), (V.i IntKind.i64 (Int.ofNat 0)), (V.b Bool.false), (V.s 0 0)])), (CO.mk G.none D.none Bool.true (CR.mk (doStore 4 (tm 19) (tm 116)))), (wB 20 (doMove (tm 117))), (wB 21 (doMove (tm 118)))]) s6_27)
noncomputable abbrev s6_29 : CC := (CC.block 5 s6_28)
noncomputable abbrev s6_30 : CC := (CC.region [(wB 109 (doMove (tm 18))), (wB 110 (bin2 fAdd (tm 109) (oN 5))), (wB 18 (doMove (tm 110)))])
noncomputable abbrev s6_31 : CC := (CC.seq s6_29 s6_30)
noncomputable abbrev l6_2 : CC := (CC.seq s6_24 s6_31)
noncomputable abbrev s6_32 : CC := (CC.loop l6_2)
noncomputable abbrev s6_33 : CC := (CC.block 4 s6_32)
noncomputable abbrev s6_34 : CC := (CC.seq (CC.region [(wB 18 (doMove (oN 0)))]) s6_33)
noncomputable abbrev s6_35 : CC := (CC.seq (CC.region [(wB 159 (doMove (tm 23))), (wB 160 (doNot (tm 159))), (wB 161 (doMove (tm 160))), (wG 161 true 162 (doMove (tm 24))), (wG 161 true 163 (bin2 fEql (tm 162) (oN 0))), (wB 164 (doPick (tm 161) (tm 163) (O.c (V.b Bool.false)))), (wB 165 (doMove (tm 164))), (wG 165 true 166 (doMove (tm 26))), (wG 165 true 167 (bin2 fEql (tm 166) (oN 0))), (wB 168 (doPick (tm 165) (tm 167) (O.c (V.b Bool.false)))), (wB 169 (doMove (tm 168))), (wG 169 true 170 (doMove (tm 25))), (wG 169 true 171 (doLen (tm 170))), (wG 169 true 172 (doMove (tm 8))), (wG 169 true 173 (bin2 fEql (tm 171) (tm 172))), (wB 174 (doPick (tm 169) (tm 173) (O.c (V.b Bool.false)))), (wB 175 (doMove (tm 174))), (wG 175 true 176 (doMove (tm 28))), (wG 175 true 177 (bin2 fEql (tm 176) (oN 0))), (wB 178 (doPick (tm 175) (tm 177) (O.c (V.b Bool.false)))), (wB 179 (doMove (tm 178))), (wG 179 true 180 (doMove (tm 27))), (wG 179 true 181 (doMove (tm 9))), (wG 179 true 182 (doCall 17 [(tm 180), (tm 181)])), (wB 183 (doPick (tm 179) (tm 182) (O.c (V.b Bool.false)))), (wB 184 (doMove (tm 183))), (wG 184 true 185 (doMove (tm 7))), (wG 184 true 186 (doMove (tm 8))), (wG 184 true 187 (bin2 fMul (tm 185) (tm 186))), (wG 184 true 188 (bin2 fLss (tm 187) (oN 12))), (wG 184 true 189 (doMove (tm 188))), (wG 189 false 190 (doMove (tm 14))), (wG 189 false 191 (doCall 20 [(tm 190)])), (wG 189 false 192 (bin2 fGtr (tm 191) (oN 1))), (wG 184 true 193 (doPick (tm 189) (O.c (V.b Bool.true)) (tm 192))), (wB 194 (doPick (tm 184) (tm 193) (O.c (V.b Bool.false)))), (wB 6 (doMove (tm 194)))]) CC.ret)
noncomputable abbrev s6_36 : CC := (CC.seq (CC.region [(wB 155 (doMove (tm 14))), (wB 156 (doCall 15 [(tm 155)])), (wB 154 (doMove (tm 156))), (wB 157 (doExtract 0 (tm 154))), (wB 158 (doExtract 1 (tm 154))), (wB 27 (doMove (tm 157))), (wB 28 (doMove (tm 158)))]) s6_35)
noncomputable abbrev s6_37 : CC := (CC.seq (CC.region [(wB 147 (doMove (tm 14))), (wB 148 (doMove (tm 17))), (wB 149 (doMove (tm 17))), (wB 150 (doConcat (tm 149) (O.c (V.s 1 0)))), (wB 151 (doCall 14 [(tm 147), (tm 148), (tm 150)])), (wB 146 (doMove (tm 151))), (wB 152 (doExtract 0 (tm 146))), (wB 153 (doExtract 1 (tm 146))), (wB 25 (doMove (tm 152))), (wB 26 (doMove (tm 153)))]) s6_36)
noncomputable abbrev s6_38 : CC := (CC.seq (CC.region [(wB 139 (doMove (tm 14))), (wB 140 (doMove (tm 17))), (wB 141 (doConcat (tm 140) (O.c (V.s 1 120)))), (wB 142 (doCall 12 [(tm 139), (tm 141), (oN 1000)])), (wB 138 (doMove (tm 142))), (wB 143 (doExtract 0 (tm 138))), (wB 144 (doExtract 1 (tm 138))), (wB 145 (doExtract 2 (tm 138))), (wB 22 (doAlloc 34 [(V.s 0 0), (V.i IntKind.i64 (Int.ofNat 0)), (V.b Bool.false), (V.s 0 0)])), (CO.mk G.none D.none Bool.true (CR.mk (doStore 4 (tm 22) (tm 143)))), (wB 23 (doMove (tm 144))), (wB 24 (doMove (tm 145)))]) s6_37)
noncomputable abbrev s6_39 : CC := (CC.seq s6_34 s6_38)
noncomputable abbrev s6_40 : CC := (CC.seq (CC.region [(wB 98 (doMove (tm 16))), (wB 99 (bin2 fAdd (oN 97) (tm 98))), (wB 100 (doConv IntKind.u8 (tm 99))), (wB 101 (doBuildSlice 5 1 [(V.i IntKind.u8 (Int.ofNat 0))] [(Pt.mk 0 1 (tm 100))])), (wB 102 (doB2S (tm 101))), (wB 103 (doConcat (O.c (V.s 3 7038329)) (tm 102))), (wB 17 (doMove (tm 103)))]) s6_39)
noncomputable abbrev s6_41 : CC := (CC.seq (CC.region [(wB 94 (doMove (tm 2))), (wB 95 (doConv IntKind.i64 (tm 94))), (wB 96 (doMove (tm 7))), (wB 97 (doRem (tm 95) (tm 96))), (wB 16 (doMove (tm 97)))]) s6_40)
noncomputable abbrev s6_42 : CC := (CC.seq s6_22 s6_41)
noncomputable abbrev s6_43 : CC := (CC.seq (CC.region [(wB 67 (doMove (tm 12))), (wB 68 (doCall 11 [(tm 67)])), (wB 66 (doMove (tm 68))), (wB 69 (doExtract 0 (tm 66))), (wB 70 (doExtract 1 (tm 66))), (wB 14 (doMove (tm 69))), (wB 15 (doMove (tm 70)))]) s6_42)
noncomputable abbrev s6_44 : CC := (CC.seq (CC.region [(wB 62 (doMove (tm 9))), (wB 63 (doCall 9 [(tm 62)])), (wB 61 (doMove (tm 63))), (wB 64 (doExtract 0 (tm 61))), (wB 65 (doExtract 1 (tm 61))), (wB 12 (doMove (tm 64))), (wB 13 (doMove (tm 65)))]) s6_43)
noncomputable abbrev s6_45 : CC := (CC.seq s6_19 s6_44)
noncomputable abbrev s6_46 : CC := (CC.seq (CC.region [(wB 9 (doMove (O.c V.l0)))]) s6_45)
noncomputable abbrev s6_47 : CC := (CC.seq (CC.region [(wB 31 (doMove (tm 0))), (wB 32 (doRem (tm 31) (O.c (V.i IntKind.u8 (Int.ofNat 25))))), (wB 33 (doConv IntKind.i64 (tm 32))), (wB 34 (bin2 fAdd (tm 33) (oN 1))), (wB 35 (doMove (tm 1))), (wB 36 (doRem (tm 35) (O.c (V.i IntKind.u8 (Int.ofNat 4))))), (wB 37 (doConv IntKind.i64 (tm 36))), (wB 38 (bin2 fAdd (tm 37) (oN 1))), (wB 7 (doMove (tm 34))), (wB 8 (doMove (tm 38)))]) s6_46)
noncomputable abbrev s6_48 : CC := (CC.seq s6_2 s6_47)
noncomputable abbrev b6 : CC := (CC.seq (CC.region [(wB 6 (doMove (O.c (V.b Bool.false))))]) s6_48)
theorem c6 : compFn Try.prog 6 = ⟨195, b6, [(Rs.tmp (slOf 6))]⟩ := by kernel_rfl
end Go.Proofs.Ytiingkpdodbldaa

set_option maxRecDepth 1000000
namespace Go.Proofs.Ytiingkpdodbldaa.ravelinlaw9
open Go.Ev
theorem known_run : runFn noTb Try.prog 1000 7 [] = true := by kernel_rfl
theorem known_pure : PureTrue Try.prog 7 := pure_of (noTb_ok _) (Checked.mixed Try.checked) known_run
end Go.Proofs.Ytiingkpdodbldaa.ravelinlaw9

set_option maxRecDepth 100000
set_option maxHeartbeats 8000000
set_option linter.all false
namespace Go.Proofs.Ytiingkpdodbldaa
open Go Go.Ev
theorem few9_ok {h : H} {v : V} {L : List Ent} (hL : Es h v L) (hl : L.length ≤ 9223372036854775807) : FnOk Try.prog 8 [v] h fun y h' => y = .b (fewE L) ∧ h' = h := by
  refine fn_go c8 (by intro hb; cases hb) (by simp) (by simp) fun Q hQ => ?_
  simp only [slotsF, Nat.reduceAdd]
  repeat' (first
    | refine St.h ?_
    | simp (disch := first | omega | (simp only [lnv]; omega)) only [wlk, ↓get_put', ↓reduceIte, seval]
    | (with_reducible (first | apply cd_split | apply gd_split)) <;> (intro hc; (try simp only [hcn] at hc); (try simp only [hc]); (try simp only [hcl] at hc); try omega))
  refine Ok.lp (fun m t g => ∃ j : Nat, m = L.length - j ∧ h = g ∧ (∀ i, i < j → okE (L.getD i default) = true) ∧ j ≤ L.length ∧ get 0 t = v ∧ get 3 t = .i .i64 (j : Int)) L.length ?_ ?_
  · simp (disch := first | omega | (simp only [lnv]; omega)) only [wlk, ↓get_put', ↓reduceIte, seval]
    exact ⟨0, by omega, trivial, fun i hi => by omega, by omega, trivial, rfl⟩
  rintro I hI m t g ⟨j, rfl, rfl, hs, hj, f0, f3⟩
  repeat' (first
    | refine St.h ?_
    | simp (disch := first | omega | (simp only [lnv]; omega)) only [wlk, ↓get_put', ↓reduceIte, seval, f0, f3, hL.ln, hL.ix, hL.l0, hL.l3, Int.toNat_natCast]
    | (with_reducible (first | apply cd_split | apply gd_split)) <;> (intro hc; (try simp only [hcn] at hc); (try simp only [hc]); (try simp only [hcl] at hc); try omega))
  · have hb : okE (L.getD j default) = false := by unfold okE; rw [decide_eq_false (p := (L.getD j default).key.length ≤ 20) (by omega), Bool.false_and]
    subst hQ
    exact ⟨by unfold fewE; rw [all_at (by omega) hb]; rfl, rfl⟩
  · have hb : okE (L.getD j default) = false := by unfold okE; rw [decide_eq_false (p := (L.getD j default).val.length ≤ 40) (by omega), Bool.and_false]
    subst hQ
    exact ⟨by unfold fewE; rw [all_at (by omega) hb]; rfl, rfl⟩
  · have hb : okE (L.getD j default) = true := by unfold okE; rw [decide_eq_true (p := (L.getD j default).val.length ≤ 40) (by omega), decide_eq_true (p := (L.getD j default).key.length ≤ 20) (by omega)]; rfl
    refine lp_next hI (L.length - (j + 1)) (by omega) ⟨j + 1, rfl, rfl, fun i hi => ?_, by omega, ?_, ?_⟩
    · rcases Nat.lt_or_ge i j with h1 | h1
      · exact hs i h1
      · rw [show i = j by omega]; exact hb
    · simp (disch := first | omega | (simp only [lnv]; omega)) only [wlk, ↓get_put', ↓reduceIte, seval, f0]
    · simp (disch := first | omega | (simp only [lnv]; omega)) only [wlk, ↓get_put', ↓reduceIte, seval]; rfl
  · subst hQ
    obtain rfl : j = L.length := by omega
    refine ⟨?_, rfl⟩
    unfold fewE
    rw [all_ok hs, Bool.true_and]
    congr 2
    exact propext ⟨fun h => by omega, fun h => by omega⟩
theorem known9 {h : H} : FnOk Try.prog 7 [] h fun y h' => y = .b true ∧ h' = h := FnOk.of_pure ravelinlaw9.known_pure h
theorem tabE_len {L : List Ent} (h : okB L) (hl : L.length ≤ 100) : 10 ≤ (tabB L).length ∧ (tabB L).length ≤ 30000 := by
  have hbl := blksE_len L
  have hbt := bodyT_len (blksE_ne (L := L)) (by rw [blksE_flat]; omega)
  rw [blksE_flat] at hbt
  have hil := idxU_len h (by omega) (blksE L).length (by omega)
  rw [idxU_all] at hil
  have hsl := sieveB_len (keysE L)
  have hkl2 : (keysE L).length ≤ L.length := keysU_len L L.length
  have q1 := sealB_len (idxB L)
  have q2 := sealB_len (sieveB (keysE L))
  have q3 := numB_len (n := (idxB L).length) (by omega)
  have q4 := numB_len (n := (sieveB (keysE L)).length) (by omega)
  have q5 := fourB_len (bodyT (blksE L)).length
  unfold tabB
  simp only [List.length_append]
  omega
theorem tabE_cases (L : List Ent) : (∃ e : Int, tabE L = ([], e) ∧ e ≠ 0) ∨ (tabE L = (tabB L, 0) ∧ okB L) := by
  by_cases hz : (blkE L).2 = 0
  · exact .inr ⟨tabE_ok hz, blkE_zero.1 hz⟩
  · exact .inl ⟨_, tabE_bad hz, hz⟩
theorem newest_self {L : List Ent} (hs : sortedE L = true) {i : Nat} (hi : i < L.length) : newestE L (L.getD i default).key (L.getD i default).seq = (L.getD i default, true) := by
  refine newest_at hs (fun j hj => ?_) hi ?_
  · have := sorted_lt hs hj hi
    unfold lessE at this
    unfold hitE
    split at this
    · rw [decide_eq_true_eq] at this
      rw [decide_eq_false (p := (L.getD j default).seq ≤ (L.getD i default).seq) (by omega), Bool.and_false]
    · rename_i hne
      rw [decide_eq_false hne, Bool.false_and]
  · unfold hitE; simp
theorem tableFinds_ok {h : H} {v : V} {L : List Ent} {key fr to : List UInt8} {seq : Int} (hw : SwN 4 v) (hL : Es h v L) (hl : L.length ≤ 9223372036854775807) (hk : key.length ≤ 9223372036854775807) (_ : -9223372036854775808 ≤ seq) (_ : seq ≤ 9223372036854775807) (h3 : fr.length ≤ 9223372036854775807) (h4 : to.length ≤ 9223372036854775807) (hf : B.val h.floor ≤ B.val h.next) : FnOk Try.prog 4 [v, sv key, .i .i64 seq, sv fr, sv to] h fun y h' => y = .b true := by
  refine fn_go c4 (by intro hb; cases hb) (by simp) (by simp) fun Q hQ => ?_
  simp only [slotsF, Nat.reduceAdd]
  repeat' (first
    | refine St.h ?_
    | simp (disch := first | omega | (simp only [lnv]; omega)) only [wlk, ↓get_put', ↓reduceIte, seval]
    | (with_reducible (first | apply cd_split | apply gd_split)) <;> (intro hc; (try simp only [hcn] at hc); (try simp only [hc]); (try simp only [hcl] at hc); try omega))
  refine CL.pure known9 ?_
  repeat' (first
    | refine St.h ?_
    | simp (disch := first | omega | (simp only [lnv]; omega)) only [wlk, ↓get_put', ↓reduceIte, seval]
    | (with_reducible (first | apply cd_split | apply gd_split)) <;> (intro hc; (try simp only [hcn] at hc); (try simp only [hc]); (try simp only [hcl] at hc); try omega))
  refine CL.pure (few9_ok hL hl) ?_
  cases hfl : fewE L with
  | false =>
    repeat' (first
      | refine St.h ?_
      | simp (disch := first | omega | (simp only [lnv]; omega)) only [wlk, ↓get_put', ↓reduceIte, seval]
      | (with_reducible (first | apply cd_split | apply gd_split)) <;> (intro hc; (try simp only [hcn] at hc); (try simp only [hc]); (try simp only [hcl] at hc); try omega))
    subst hQ; rfl
  | true =>
  obtain ⟨hl60, _⟩ := few_len hfl
  repeat' (first
    | refine St.h ?_
    | simp (disch := first | omega | (simp only [lnv]; omega)) only [wlk, ↓get_put', ↓reduceIte, seval]
    | (with_reducible (first | apply cd_split | apply gd_split)) <;> (intro hc; (try simp only [hcn] at hc); (try simp only [hc]); (try simp only [hcl] at hc); try omega))
  · subst hQ; rfl
  · subst hQ; rfl
  · subst hQ; rfl
  refine CL.stay (tmake_ok hL hw (by omega) hf) fun h1 s1 => ?_
  have hf1 := s1.fl hf
  rcases tabE_cases L with ⟨e, hE, he⟩ | ⟨hE, hok⟩
  · rw [hE]
    have he' : (e = 0) = False := eq_false he
    repeat' (first
      | refine St.h ?_
      | simp (disch := first | omega | (simp only [lnv]; omega)) only [wlk, ↓get_put', ↓reduceIte, seval, he']
      | (with_reducible (first | apply cd_split | apply gd_split)) <;> (intro hc; (try simp only [hcn] at hc); (try simp only [hc]); (try simp only [hcl] at hc); try omega))
    subst hQ; rfl
  rw [hE]
  obtain ⟨n1, n2⟩ := tabE_len hok (by omega)
  repeat' (first
    | refine St.h ?_
    | simp (disch := first | omega | (simp only [lnv]; omega)) only [wlk, ↓get_put', ↓reduceIte, seval]
    | (with_reducible (first | apply cd_split | apply gd_split)) <;> (intro hc; (try simp only [hcn] at hc); (try simp only [hc]); (try simp only [hcl] at hc); try omega))
  refine CL.mk (topen_ok (s := tabB L) (by omega) hf1) ?_
  rintro _ h2 ⟨s2, h7⟩
  have hf2 := s2.fl hf1
  rcases h7 with ⟨e, rfl, he, hsh, hno⟩ | ⟨p, rfl, _, hT⟩
  · exact absurd rfl (hno L hok (by omega))
  have T := hT L hok (by omega) rfl
  have hL2 := (hL.grow s1).grow s2
  repeat' (first
    | refine St.h ?_
    | simp (disch := first | omega | (simp only [lnv]; omega)) only [wlk, ↓get_put', ↓reduceIte, seval, tp, or_ptr, h2_ptr00, h2_ptr01, h2_ptr10]
    | (with_reducible (first | apply cd_split | apply gd_split)) <;> (intro hc; (try simp only [hcn] at hc); (try simp only [hc]); (try simp only [hcl] at hc); try omega))
  refine CL.stay (tget_ok T hok (by omega) (by omega) hf2) fun h3 s3 => ?_
  have hf3 := s3.fl hf2
  have T3 := T.grow s3
  have hL3 := hL2.grow s3
  generalize hr : newestE L key seq = r at *
  obtain ⟨⟨rk, rq, rd, rv⟩, rb⟩ := r
  unfold entC
  repeat' (first
    | refine St.h ?_
    | simp (disch := first | omega | (simp only [lnv]; omega)) only [wlk, ↓get_put', ↓reduceIte, seval]
    | (with_reducible (first | apply cd_split | apply gd_split)) <;> (intro hc; (try simp only [hcn] at hc); (try simp only [hc]); (try simp only [hcl] at hc); try omega))
  refine AL.own (by simp) hf3 fun h4 s4 n4 o4 => ?_
  have hf4 := s4.fl hf3
  repeat' (first
    | refine St.h ?_
    | simp (disch := first | omega | (simp only [lnv]; omega)) only [wlk, ↓get_put', ↓reduceIte, seval]
    | (with_reducible (first | apply cd_split | apply gd_split)) <;> (intro hc; (try simp only [hcn] at hc); (try simp only [hc]); (try simp only [hcl] at hc); try omega))
  refine ST.all o4 rfl rfl (by simp) (by simp) fun h5 o5 s5 => ?_
  have s35 : Stay nowhere h3 h5 := s4.past' s5 fun q hq => by rw [hq]; exact Nat.le_refl _
  have hf5 := s35.fl hf3
  have T5 := T3.grow s35
  have hL5 := hL3.grow s35
  repeat' (first
    | refine St.h ?_
    | simp (disch := first | omega | (simp only [lnv]; omega)) only [wlk, ↓get_put', ↓reduceIte, seval]
    | (with_reducible (first | apply cd_split | apply gd_split)) <;> (intro hc; (try simp only [hcn] at hc); (try simp only [hc]); (try simp only [hcl] at hc); try omega))
  refine CL.stay (rnewest_ok hL5 (by omega) hf5) fun h6 s6 => ?_
  rw [hr]
  unfold twoE entC
  have hf6 := s6.fl hf5
  have T6 := T5.grow s6
  have hL6 := hL5.grow s6
  have o6 := o5.stay s6 fun h => h
  repeat' (first
    | refine St.h ?_
    | simp (disch := first | omega | (simp only [lnv]; omega)) only [wlk, ↓get_put', ↓reduceIte, seval]
    | (with_reducible (first | apply cd_split | apply gd_split)) <;> (intro hc; (try simp only [hcn] at hc); (try simp only [hc]); (try simp only [hcl] at hc); try omega))
  refine AL.own (by simp) hf6 fun h7 s7 n7 o7 => ?_
  have hf7 := s7.fl hf6
  have o67 := o6.stay s7 fun h => h
  repeat' (first
    | refine St.h ?_
    | simp (disch := first | omega | (simp only [lnv]; omega)) only [wlk, ↓get_put', ↓reduceIte, seval]
    | (with_reducible (first | apply cd_split | apply gd_split)) <;> (intro hc; (try simp only [hcn] at hc); (try simp only [hc]); (try simp only [hcl] at hc); try omega))
  refine ST.all o7 rfl rfl (by simp) (by simp) fun h8 o8 s8 => ?_
  have hlt : B.val h3.next < B.val h6.next := own_lt' o6
  have o68 := o67.stay s8 (b_ne hlt)
  have s68 : Stay nowhere h6 h8 := s7.past' s8 fun q hq => by rw [hq]; exact Nat.le_refl _
  have hf8 := s68.fl hf6
  have T8 := T6.grow s68
  have hL8 := hL6.grow s68
  repeat' (first
    | refine St.h ?_
    | simp (disch := first | omega | (simp only [lnv]; omega)) only [wlk, ↓get_put', ↓reduceIte, seval]
    | (with_reducible (first | apply cd_split | apply gd_split)) <;> (intro hc; (try simp only [hcn] at hc); (try simp only [hc]); (try simp only [hcl] at hc); try omega))
  refine CL.mk (trange_ok T8 hok (by omega) hf8) ?_
  rintro _ h9 ⟨u, rfl, hu, s9⟩
  have hf9 := s9.fl hf8
  have T9 := T8.grow s9
  repeat' (first
    | refine St.h ?_
    | simp (disch := first | omega | (simp only [lnv]; omega)) only [wlk, ↓get_put', ↓reduceIte, seval]
    | (with_reducible (first | apply cd_split | apply gd_split)) <;> (intro hc; (try simp only [hcn] at hc); (try simp only [hc]); (try simp only [hcl] at hc); try omega))
  refine CL.mk (tall_ok T9 hok (by omega) hf9) ?_
  rintro _ h10 ⟨w, rfl, hw2, s10⟩
  have hf10 := s10.fl hf9
  have T10 := T9.grow s10
  repeat' (first
    | refine St.h ?_
    | simp (disch := first | omega | (simp only [lnv]; omega)) only [wlk, ↓get_put', ↓reduceIte, seval]
    | (with_reducible (first | apply cd_split | apply gd_split)) <;> (intro hc; (try simp only [hcn] at hc); (try simp only [hc]); (try simp only [hcl] at hc); try omega))
  refine CL.pure (tends_ok T10 hok (by omega) hf10) ?_
  have hL10 := hL8.grow (s9.trans s10)
  have hu10 := hu.grow s10
  have o6x := o68.stay (s9.trans s10) fun h => h
  have o8x := o8.stay (s9.trans s10) fun h => h
  have hrl := rangeE_le L fr to
  have hpos := okB_pos hok
  have hd2 : rk = rk ∧ rq = rq ∧ rd = rd ∧ rv = rv := ⟨rfl, rfl, rfl, rfl⟩
  repeat' (first
    | refine St.h ?_
    | simp (disch := first | omega | (simp only [lnv]; omega)) only [wlk, ↓get_put', ↓reduceIte, seval, o6x.row.ln, o8x.row.ln]
    | (with_reducible (first | apply cd_split | apply gd_split)) <;> (intro hc; (try simp only [hcn] at hc); (try simp only [hc]); (try simp only [hcl] at hc); try omega))
  refine CL.mk (rrange_ok (fr := fr) (to := to) hL10 (by omega) hf10) ?_
  rintro x h11 ⟨hx, s11⟩
  have hf11 := s11.fl hf10
  have hu11 := hu10.grow s11
  have T11 := T10.grow s11
  have hL11 := hL10.grow s11
  repeat' (first
    | refine St.h ?_
    | simp (disch := first | omega | (simp only [lnv]; omega)) only [wlk, ↓get_put', ↓reduceIte, seval]
    | (with_reducible (first | apply cd_split | apply gd_split)) <;> (intro hc; (try simp only [hcn] at hc); (try simp only [hc]); (try simp only [hcl] at hc); try omega))
  refine CL.pure (rsame_ok hu11 hx (by omega)) ?_
  have hd3 : (rangeE L fr to = rangeE L fr to) = True := eq_true rfl
  repeat' (first
    | refine St.h ?_
    | simp (disch := first | omega | (simp only [lnv]; omega)) only [wlk, ↓get_put', ↓reduceIte, seval, hd3]
    | (with_reducible (first | apply cd_split | apply gd_split)) <;> (intro hc; (try simp only [hcn] at hc); (try simp only [hc]); (try simp only [hcl] at hc); try omega))
  refine CL.pure (rsame_ok ((hw2.grow s11)) hL11 (by omega)) ?_
  have hd4 : (L = L) = True := eq_true rfl
  repeat' (first
    | refine St.h ?_
    | simp (disch := first | omega | (simp only [lnv]; omega)) only [wlk, ↓get_put', ↓reduceIte, seval, hd4]
    | (with_reducible (first | apply cd_split | apply gd_split)) <;> (intro hc; (try simp only [hcn] at hc); (try simp only [hc]); (try simp only [hcl] at hc); try omega))
  refine CL.pure (tcount_ok T11) ?_
  repeat' (first
    | refine St.h ?_
    | simp (disch := first | omega | (simp only [lnv]; omega)) only [wlk, ↓get_put', ↓reduceIte, seval, hL.ln]
    | (with_reducible (first | apply cd_split | apply gd_split)) <;> (intro hc; (try simp only [hcn] at hc); (try simp only [hc]); (try simp only [hcl] at hc); try omega))
  refine CL.pure (tblocks_ok T11) ?_
  repeat' (first
    | refine St.h ?_
    | simp (disch := first | omega | (simp only [lnv]; omega)) only [wlk, ↓get_put', ↓reduceIte, seval]
    | (with_reducible (first | apply cd_split | apply gd_split)) <;> (intro hc; (try simp only [hcn] at hc); (try simp only [hc]); (try simp only [hcl] at hc); try omega))
  refine CL.mk (rblocks_ok hL11 hw (by omega) hf11) ?_
  rintro z h12 ⟨ks, hz, s12⟩
  have hf12 := s12.fl hf11
  have T12 := T11.grow s12
  have hL12 := hL11.grow s12
  have hl1 : ((L.length : Int) - 1).toNat = L.length - 1 := by omega
  have hfi : firstK L = (L.getD 0 default).key := rfl
  have hla : lastK L = (L.getD (L.length - 1) default).key := rfl
  rw [hfi, hla]
  repeat' (first
    | refine St.h ?_
    | simp (disch := first | omega | (simp only [lnv]; omega)) only [wlk, ↓get_put', ↓reduceIte, seval, hz.ln, hL.ln, hL.ix, hl1, es_l00 hL12 hpos, hL12.l0]
    | (with_reducible (first | apply cd_split | apply gd_split)) <;> (intro hc; (try simp only [hcn] at hc); (try simp only [hc]); (try simp only [hcl] at hc); try omega))
  refine Ok.lp (fun m t g => ∃ j : Nat, m = L.length - j ∧ j ≤ L.length ∧ get 0 t = v ∧ get 13 t = tp p ∧ get 26 t = .i .i64 (j : Int) ∧ Stay nowhere h12 g) L.length ?_ ?_
  · simp (disch := first | omega | (simp only [lnv]; omega)) only [wlk, ↓get_put', ↓reduceIte, seval, tp]
    exact ⟨0, by omega, by omega, trivial, trivial, rfl, Stay.refl _ _⟩
  rintro I hI m t g ⟨j, rfl, hj, f0, f13, f26, st⟩
  have hfg := st.fl hf12
  have Tg := T12.grow st
  have hLg := hL12.grow st
  by_cases hjl : j < L.length
  case neg =>
    obtain rfl : j = L.length := by omega
    repeat' (first
      | refine St.h ?_
      | simp (disch := first | omega | (simp only [lnv]; omega)) only [wlk, ↓get_put', ↓reduceIte, seval, f0, f26, hL.ln]
      | (with_reducible (first | apply cd_split | apply gd_split)) <;> (intro hc; (try simp only [hcn] at hc); (try simp only [hc]); (try simp only [hcl] at hc); try omega))
    subst hQ; rfl
  have hkj := okB_key hok hjl
  have hns := newest_self hok.2.2 hjl
  repeat' (first
    | refine St.h ?_
    | simp (disch := first | omega | (simp only [lnv]; omega)) only [wlk, ↓get_put', ↓reduceIte, seval, f0, f13, f26, hL.ln, hL.ix, hLg.l0, hLg.l1, Int.toNat_natCast]
    | (with_reducible (first | apply cd_split | apply gd_split)) <;> (intro hc; (try simp only [hcn] at hc); (try simp only [hc]); (try simp only [hcl] at hc); try omega))
  refine CL.stayU (tget_ok Tg.re hok (by omega) (by omega) (re_fl _)) fun g1 t1 => ?_
  rw [hns]
  have hfg1 := t1.fl hfg
  have hLg1 := hLg.grow t1
  generalize he : L.getD j default = e at *
  obtain ⟨ek, eq, ed, ev⟩ := e
  unfold entC
  repeat' (first
    | refine St.h ?_
    | simp (disch := first | omega | (simp only [lnv]; omega)) only [wlk, ↓get_put', ↓reduceIte, seval, f0, f13, f26]
    | (with_reducible (first | apply cd_split | apply gd_split)) <;> (intro hc; (try simp only [hcn] at hc); (try simp only [hc]); (try simp only [hcl] at hc); try omega))
  refine AL.ownU (by simp) hfg1 fun g2 t2 o2 => ?_
  repeat' (first
    | refine St.h ?_
    | simp (disch := first | omega | (simp only [lnv]; omega)) only [wlk, ↓get_put', ↓reduceIte, seval, f0, f13, f26]
    | (with_reducible (first | apply cd_split | apply gd_split)) <;> (intro hc; (try simp only [hcn] at hc); (try simp only [hc]); (try simp only [hcl] at hc); try omega))
  refine ST.all o2 rfl rfl (by simp) (by simp) fun g3 o3 t3 => ?_
  have t13 : Stay nowhere g1 g3 := t2.past' t3 fun q hq => by rw [hq]; exact Nat.le_refl _
  have hLg3 := hLg1.grow t13
  have hd5 : ek = ek ∧ eq = eq ∧ ed = ed ∧ ev = ev := ⟨rfl, rfl, rfl, rfl⟩
  repeat' (first
    | refine St.h ?_
    | simp (disch := first | omega | (simp only [lnv]; omega)) only [wlk, ↓get_put', ↓reduceIte, seval, f0, f13, f26, hL.ix, hLg3.la, o3.row.ln, he, Int.toNat_natCast]
    | (with_reducible (first | apply cd_split | apply gd_split)) <;> (intro hc; (try simp only [hcn] at hc); (try simp only [hc]); (try simp only [hcl] at hc); try omega))
  refine lp_next hI (L.length - (j + 1)) (by omega) ⟨j + 1, rfl, by omega, by simp (disch := first | omega | (simp only [lnv]; omega)) only [wlk, ↓get_put', ↓reduceIte, seval, f0], by simp (disch := first | omega | (simp only [lnv]; omega)) only [wlk, ↓get_put', ↓reduceIte, seval, f13], by simp (disch := first | omega | (simp only [lnv]; omega)) only [wlk, ↓get_put', ↓reduceIte, seval, f26]; rfl, (st.trans t1).trans t13⟩
end Go.Proofs.Ytiingkpdodbldaa

set_option linter.all false
namespace Go.Ev
open Go Go.RowKit Go.WideShapes Go.ChangeShapes Go.ChangeAt Go.Deep
section
variable {H' : Type} {enc : TypeId × Value → H'} {P : Program}
theorem flat_of {W : World} {t : TypeId} {fs : Array Field} {fuel : Nat} {cs : List Value} {x : DataW H' × List MemPlace} (ut : P.underlying t = some (.struct fs)) (hd : DataW.trod enc P W 0 (fun _ => true) true fuel t cs = some x) :
    cs.length = P.cellsOf t ∧ ∀ (i : Nat) f, fs.toList[i]? = some f → ∃ n y, DataW.trod enc P W 0 (fun _ => true) true n f.type ((cs.drop f.offset).take (P.cellsOf f.type)) = some y := by
  cases fuel with
  | zero => simp [DataW.trod] at hd
  | succ n =>
    unfold DataW.trod at hd
    rw [ut] at hd
    simp only at hd
    split at hd
    · rename_i hl
      refine ⟨hl, fun i f hf => ?_⟩
      rw [Option.map_eq_some_iff] at hd
      obtain ⟨xs, hx, _⟩ := hd
      have := mapM_some_get hx i f hf
      have hlen := mapM_some_length hx
      have hi : i < xs.length := by rw [hlen]; exact (List.getElem?_eq_some_iff.1 hf).1
      exact ⟨n, xs[i], by rw [this]; simp⟩
    · cases hd
structure EntF (P : Program) (t : TypeId) (fs : Array Field) : Prop where
  ut : P.underlying t = some (.struct fs)
  sz : P.cellsOf t = 4
  f0 : ∃ f, fs.toList[0]? = some f ∧ f.offset = 0 ∧ P.cellsOf f.type = 1 ∧ P.underlying f.type = some .string
  f1 : ∃ f, fs.toList[1]? = some f ∧ f.offset = 1 ∧ P.cellsOf f.type = 1 ∧ P.underlying f.type = some (.int .i64)
  f2 : ∃ f, fs.toList[2]? = some f ∧ f.offset = 2 ∧ P.cellsOf f.type = 1 ∧ P.underlying f.type = some .bool
  f3 : ∃ f, fs.toList[3]? = some f ∧ f.offset = 3 ∧ P.cellsOf f.type = 1 ∧ P.underlying f.type = some .string
/-- an entry's cells -/
def entV (k : ByteArray) (n : Int) (d : Bool) (v : ByteArray) : List Value := [.string k, .int .i64 n, .bool d, .string v]
theorem ent_cells {W : World} {t : TypeId} {fs : Array Field} {fuel : Nat} {cs : List Value} {x : DataW H' × List MemPlace} (F : EntF P t fs) (hd : DataW.trod enc P W 0 (fun _ => true) true fuel t cs = some x) :
    ∃ k n d v, cs = entV k n d v ∧ k.size ≤ maxLen ∧ v.size ≤ maxLen ∧ (Lit.int .i64 n).wf = true := by
  obtain ⟨hl, hf⟩ := flat_of F.ut hd
  rw [F.sz] at hl
  obtain ⟨f0, g0, o0, c0, u0⟩ := F.f0
  obtain ⟨f1, g1, o1, c1, u1⟩ := F.f1
  obtain ⟨f2, g2, o2, c2, u2⟩ := F.f2
  obtain ⟨f3, g3, o3, c3, u3⟩ := F.f3
  match cs, hl with
  | [a, b, c, d], _ =>
    obtain ⟨_, _, h0⟩ := hf 0 f0 g0
    obtain ⟨_, _, h1⟩ := hf 1 f1 g1
    obtain ⟨_, _, h2⟩ := hf 2 f2 g2
    obtain ⟨_, _, h3⟩ := hf 3 f3 g3
    rw [o0, c0] at h0
    rw [o1, c1] at h1
    rw [o2, c2] at h2
    rw [o3, c3] at h3
    obtain ⟨k, e0, _, z0⟩ := DataW.trod_string u0 h0
    obtain ⟨n, e1, _, z1⟩ := DataW.trod_int u1 h1
    obtain ⟨q, e2, _⟩ := DataW.trod_bool u2 h2
    obtain ⟨v, e3, _, z3⟩ := DataW.trod_string u3 h3
    simp at e0 e1 e2 e3
    exact ⟨k, n, q, v, by rw [e0, e1, e2, e3]; rfl, z0, z3, z1⟩
/-- a row of entries -/
theorem es_of {W : World} {h : H} (s : Start W h) (h0 : 0 < W.heap.size) {t e : TypeId} {fs : Array Field} {fuel : Nat} {cs : List Value} {x : DataW H' × List MemPlace} (ht : P.underlying t = some (.slice e)) (F : EntF P e fs)
    (hd : DataW.trod enc P W 0 (fun _ => true) true fuel t cs = some x) : ∃ sv L, cs = [sv] ∧ Es h (absV W sv) L ∧ L.length ≤ 9223372036854775807 ∧ ∀ e ∈ L, (e.key.length ≤ 9223372036854775807 ∧ e.val.length ≤ 9223372036854775807) ∧ -9223372036854775808 ≤ e.seq ∧ e.seq ≤ 9223372036854775807 := by
  rcases open_slice ht hd with ⟨rfl, _⟩ | ⟨a, len, cap, m, n, D, Pl, rfl, hb, hl, hm, hmm, _, hx⟩
  · exact ⟨_, [], rfl, .inl ⟨rfl, rfl⟩, by simp, fun e he => by cases he⟩
  simp only [if_true] at hmm
  rw [F.sz] at hx
  have hx' : ∀ i, i < len → ∃ k n q u, (∀ d y, (entV k n q u)[d]? = some y → W.cell? ⟨a.block, a.off + i * 4 + d, none⟩ = some y) ∧ (0 < len → a.spot = none) ∧ k.size ≤ maxLen ∧ u.size ≤ maxLen ∧ (Lit.int .i64 n).wf = true := by
    intro i hi
    obtain ⟨cs', h1, h2⟩ := hx i (by omega)
    obtain ⟨k, n, q, u, rfl, z1, z2, z3⟩ := ent_cells F h2
    obtain ⟨_, _, h3⟩ := World.cells?_some h1
    refine ⟨k, n, q, u, fun d y hy => ?_, fun _ => ?_, z1, z2, z3⟩
    · have hd : d < 4 := by have := (List.getElem?_eq_some_iff.1 hy).1; exact this
      have h4 := h3 d hd
      rw [hy] at h4
      have h5 := cell_add h4
      have e1 : (a.add (i * 4)).block = a.block := by unfold Addr.add; split <;> rfl
      have e2 : (a.add (i * 4)).off = a.off + i * 4 := by
        unfold Addr.add; split
        · rename_i hz; rw [hz]; rfl
        · rfl
      rw [e1, e2] at h5
      exact h5
    · have hlen : 0 < len := by omega
      obtain ⟨cs0, g1, g2⟩ := hx 0 (by omega)
      obtain ⟨k0, n0, q0, u0, rfl, _⟩ := ent_cells F g2
      obtain ⟨_, _, g3⟩ := World.cells?_some g1
      have g4 := g3 0 (by omega)
      have g5 := World.cell?_spot g4
      unfold Addr.add at g5
      simpa using g5
  obtain ⟨E, hE⟩ := choose_lt (α := ByteArray × Int × Bool × ByteArray) (p := fun i r => (∀ d y, (entV r.1 r.2.1 r.2.2.1 r.2.2.2)[d]? = some y → W.cell? ⟨a.block, a.off + i * 4 + d, none⟩ = some y) ∧ (0 < len → a.spot = none) ∧ r.1.size ≤ maxLen ∧ r.2.2.2.size ≤ maxLen ∧ (Lit.int .i64 r.2.1).wf = true) (fun i hi => by
    obtain ⟨k, n, q, u, h⟩ := hx' i hi
    exact ⟨(k, n, q, u), h⟩)
  let G : Nat → Ent := fun i => ⟨(E i).1.data.toList, (E i).2.1, (E i).2.2.1, (E i).2.2.2.data.toList⟩
  have hL : ((List.range len).map G).length = len := by simp
  refine ⟨_, (List.range len).map G, rfl, ?_, by rw [hL]; exact maxLen_le (by omega), fun e he => ?_⟩
  · obtain ⟨b, off, spot⟩ := a
    cases len with
    | zero =>
      have e : absV W (.slice (some ⟨b, off, spot⟩) 0 cap) = .l (nb 0) 0 0 0 0 none := by unfold absV; simp only [if_pos h0]
      rw [e]
      exact .inr ⟨nb 0, 0, 0, 0, none, rfl, by simp, (s.blk 0 h0).1, fun hne => absurd rfl hne, fun i v hv => by simp at hv⟩
    | succ n =>
      have hs' : spot = none := (hE 0 (by omega)).2.1 (by omega)
      subst hs'
      have hcell : ∀ i, i < n + 1 → ∀ d y, (entV (E i).1 (E i).2.1 (E i).2.2.1 (E i).2.2.2)[d]? = some y → b < W.heap.size ∧ off + i * 4 + d < csz W b ∧ (∃ blk, h.heap.get (nb b) = some blk ∧ blk.min ≤ 0) ∧ Ev.cell h (nb b) 0 (off + i * 4 + d) = some (absV W y) :=
        fun i hi d y hy => s.cell ((hE i hi).1 d y hy)
      obtain ⟨d1, d2, d3, d4⟩ := hcell n (by omega) 3 _ rfl
      have e : absV W (.slice (some ⟨b, off, none⟩) (n + 1) cap) = .l (nb b) 0 off (n + 1) (csz W b) (some cap) := by unfold absV; simp only [if_pos (⟨d1, hl, Nat.lt_of_le_of_lt hm maxLen_lt⟩ : b < W.heap.size ∧ n + 1 ≤ cap ∧ cap < 18446744073709551616)]
      rw [e]
      refine .inr ⟨nb b, 0, off, csz W b, some cap, by rw [hL], by rw [hL]; omega, (s.blk b d1).1, fun _ => d3, fun j v hv => ?_⟩
      have hj : j < (((List.range (n + 1)).map G).flatMap entC).length := (List.getElem?_eq_some_iff.1 hv).1
      rw [fm_len entC_len, hL] at hj
      obtain ⟨i, d, rfl, hd⟩ : ∃ i d, j = i * 4 + d ∧ d < 4 := ⟨j / 4, j % 4, by omega, by omega⟩
      have hi : i < n + 1 := by omega
      rw [fm_get entC_len (by rw [hL]; exact hi) hd] at hv
      have hG : ((List.range (n + 1)).map G).getD i default = G i := by simp [List.getD, hi]
      rw [hG] at hv
      rw [← Nat.add_assoc]
      match d, hd with
      | 0, _ => have := (hcell i hi 0 _ rfl).2.2.2; rw [this, absV_str]; exact hv
      | 1, _ => exact (hcell i hi 1 _ rfl).2.2.2.trans hv
      | 2, _ => exact (hcell i hi 2 _ rfl).2.2.2.trans hv
      | 3, _ => have := (hcell i hi 3 _ rfl).2.2.2; rw [this, absV_str]; exact hv
  · obtain ⟨i, hi, rfl⟩ := List.mem_map.1 he
    rw [List.mem_range] at hi
    obtain ⟨_, _, z1, z2, z3⟩ := hE i hi
    exact ⟨⟨str_len z1, str_len z2⟩, wf_i64 z3⟩
theorem swn_abs {W : World} {h : H} {x : Value} {L : List Ent} (a : Es h (absV W x) L) : SwN 4 (absV W x) := by
  have nol : ∀ v : V, Es h v L → v ≠ .u := by
    rintro _ (⟨rfl, _⟩ | ⟨id, g, off, fin, cap, rfl, _⟩) <;> intro e <;> cases e
  have np : ∀ id g off fin, ¬ Es h (.p id g off fin) L := by
    rintro id g off fin (⟨e, _⟩ | ⟨_, _, _, _, _, e, _⟩) <;> cases e
  revert a
  unfold absV
  split
  all_goals intro a
  all_goals first
    | exact .inl rfl
    | (exfalso; rcases a with ⟨e, _⟩ | ⟨_, _, _, _, _, e, _⟩ <;> cases e; done)
    | skip
  · split at a
    · exact absurd a (np _ _ _ _)
    · exact absurd rfl (nol _ a)
  · rename_i hh
    split at a
    · rename_i hb
      rw [if_pos hb]
      exact .inr ⟨_, _, _, _, _, _, rfl, hb.2.1, fun h => absurd hb.2.2 (Nat.not_lt.2 h)⟩
    · exact absurd rfl (nol _ a)
  · split at a
    · rename_i hb
      rw [if_pos hb]
      exact .inr ⟨_, _, _, _, _, _, rfl, rfl⟩
    · exact absurd rfl (nol _ a)
structure WriF (P : Program) (t : TypeId) (fs : Array Field) : Prop where
  ut : P.underlying t = some (.struct fs)
  sz : P.cellsOf t = 3
  f0 : ∃ f, fs.toList[0]? = some f ∧ f.offset = 0 ∧ P.cellsOf f.type = 1 ∧ P.underlying f.type = some .string
  f1 : ∃ f, fs.toList[1]? = some f ∧ f.offset = 1 ∧ P.cellsOf f.type = 1 ∧ P.underlying f.type = some .bool
  f2 : ∃ f, fs.toList[2]? = some f ∧ f.offset = 2 ∧ P.cellsOf f.type = 1 ∧ P.underlying f.type = some .string
end
end Go.Ev

namespace Go.Proofs.Ytiingkpdodbldaa.tableFinds
open Go Go.Ev Go.ChangeShapes Go.WideShapes Go.ChangeAt Go.RowKit Go.ChangeMaps
set_option linter.all false
theorem own : ownKnob Try.prog.godebug = none := by kernel_rfl
theorem laid : laidOutB Try.prog = true := by kernel_rfl
theorem heap_pos {W : World} (h : W.ShapedOpen Try.prog) : 0 < W.heap.size := by
  obtain ⟨o, _, h1, _⟩ := h.2 0 (of_decide_eq_true (by kernel_rfl)) (of_decide_eq_true (by kernel_rfl))
  exact (Array.getElem?_eq_some_iff.1 h1).1
set_option maxRecDepth 100000 in
theorem isEntF : ∃ fs, EntF Try.prog 34 fs := ⟨_, (EntF.mk Try.underlying34 (by kernel_rfl) ⟨_, rfl, rfl, by kernel_rfl, Try.underlying9⟩ ⟨_, rfl, rfl, by kernel_rfl, Try.underlying3⟩ ⟨_, rfl, rfl, by kernel_rfl, Try.underlying4⟩ ⟨_, rfl, rfl, by kernel_rfl, Try.underlying9⟩)⟩
set_option maxRecDepth 100000 in
theorem run {H : Type} {enc : TypeId × Value → H} (W : World) (base : Nat) (args : Array Value) (ds : List (DataW H)) (p : List MemPlace) (hval : ∀ (j : Nat) t v, Try.f4.params[j]? = some t → args[j]? = some v → Value.okWide Try.prog W .any base t v) (hopen : W.ShapedOpen Try.prog)
    (hA : DataW.TrodAll enc Try.prog W 0 (fun _ => true) true Try.f4.params.toList args.toList ds p) : Calls Try.prog 4 args W fun e w' => e = .returned (.bool true) ∧ Below W.heap.size W w' := by
  rw [Try.params4] at hA hval
  obtain ⟨fsEntF, eF⟩ := isEntF
  obtain ⟨v0, vs0, d0, ds0, p0, q0, hargs, rfl, rfl, h0, r0⟩ := trodAll_cons hA
  obtain ⟨v1, vs1, d1, ds1, p1, q1, rfl, rfl, rfl, h1, r1⟩ := trodAll_cons r0
  obtain ⟨v2, vs2, d2, ds2, p2, q2, rfl, rfl, rfl, h2, r2⟩ := trodAll_cons r1
  obtain ⟨v3, vs3, d3, ds3, p3, q3, rfl, rfl, rfl, h3, r3⟩ := trodAll_cons r2
  obtain ⟨v4, vs4, d4, ds4, p4, q4, rfl, rfl, rfl, h4, r4⟩ := trodAll_cons r3
  obtain ⟨rfl, rfl, rfl⟩ := trodAll_nil r4
  obtain rfl : args = #[v0, v1, v2, v3, v4] := by cases args; simp_all
  obtain ⟨h, s1, s2⟩ := Go.Ev.start W
  have s : Go.Ev.Start W h := ⟨s1, s2⟩
  obtain ⟨x0, y0, z0, rfl⟩ := okWide_slice Try.underlying22 (hval 0 22 v0 rfl rfl)
  obtain ⟨fu0, hfu0⟩ := h0
  obtain ⟨u0, L0, e0, m0, l0, k0⟩ := es_of s (heap_pos hopen) Try.underlying22 eF hfu0
  obtain rfl := (List.cons.inj (show [Value.slice x0 y0 z0] = [u0] from e0)).1
  obtain ⟨a1, rfl, rfl, rfl, w1⟩ := open_string Try.underlying9 (hval 1 9 v1 rfl rfl) h1
  obtain ⟨a2, rfl, rfl, rfl, w2⟩ := open_int Try.underlying3 (hval 2 3 v2 rfl rfl) h2
  obtain ⟨a3, rfl, rfl, rfl, w3⟩ := open_string Try.underlying9 (hval 3 9 v3 rfl rfl) h3
  obtain ⟨a4, rfl, rfl, rfl, w4⟩ := open_string Try.underlying9 (hval 4 9 v4 rfl rfl) h4
  exact calls_true s (vs := [absV W (.slice x0 y0 z0), sv a1.data.toList, .i .i64 a2, sv a3.data.toList, sv a4.data.toList]) ⟨absV_rel W _, (by rw [← absV_str W]; exact absV_rel W _), rfl, (by rw [← absV_str W]; exact absV_rel W _), (by rw [← absV_str W]; exact absV_rel W _), trivial⟩ (tableFinds_ok (swn_abs m0) m0 l0 (str_len w1) (wf_i64 w2).1 (wf_i64 w2).2 (str_len w3) (str_len w4) s1.flo)
set_option maxRecDepth 100000 in
theorem lifted (os : Os) (started : os.Started) (H : Type) (enc : TypeId × Value → H) :
    ReturnsInHanded {} Try.checked os 4 .any (Rows.tableFindsSpec.pre6 enc Try.prog Try.f4 Rows.tableFindsRow.domain false) (Rows.tableFindsSpec.post enc Try.prog Try.f4 false true false false) :=
  law_lifted (C := Try.checked) own started (by kernel_rfl) Try.func4
    (ChangeSpec.witness6 (enc := enc) (C := Try.checked) false ⟨#[], #[.slice none 0 0, .string ⟨#[]⟩, .int .i64 0, .string ⟨#[]⟩, .string ⟨#[]⟩], []⟩ 8 (by kernel_rfl) (by kernel_rfl) (by kernel_rfl) (by kernel_rfl))
    rfl (fun ds hd => by rw [Try.params4] at hd; match ds, hd with | [d1, d2, d3, d4, d5], _ => rfl) laid (by kernel_rfl) (by kernel_rfl) Try.underlying4 (fun W base args ds p hv ho hA => run W base args ds p hv ho hA)
theorem over : Rows.tableFindsRow.holds Try.pinned (OpenSpec.ofChange Rows.tableFindsSpec) :=
  OpenClaim.holds_of_wide 4 Try.f4 rfl rfl rfl rfl rfl rfl rfl ⟨rfl, rfl, rfl, rfl, rfl⟩ rfl rfl rfl rfl rfl (by kernel_rfl) Try.func4 (by kernel_rfl)
    (of_decide_eq_true (by kernel_rfl)) (by unfold Func.isWrapper; first | (rw [if_pos (by decide +kernel)]; kernel_rfl) | (rw [if_neg (by decide +kernel)]; exact ⟨rfl, rfl⟩))
    (fun os started H enc _ => lifted os started H enc)
/-- THE STATEMENT -/
theorem proved : Rows.TableFindsSaid :=
  over
end Go.Proofs.Ytiingkpdodbldaa.tableFinds
