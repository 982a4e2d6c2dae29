/- Texts of ours, without what this claim does not use: NItP2 Knravelinlaw18 NItK JrIt2 NItB NItT NItW ItemRows. No condition. -/
import Derived.Test.YtmlcddeikgechaaPkItemRows5
import Derived.Test.YtmlcddeikgechaaRows
import Derived.Test.YtmlcddeikgechaaProg
import Derived.KernelRfl
import Derived.WalkKit
import Derived.ProofKit
import Derived.OpenShut
import Derived.ChangeMaps5
set_option maxRecDepth 100000
set_option maxHeartbeats 8000000
set_option linter.all false
namespace Go.Proofs.Ytmlcddeikgechaa
open Go Go.Ev
theorem hasPre_ok {h : H} {p r : List UInt8} (hs : p.length + r.length ≤ 9223372036854775807) : FnOk Try.prog 56 [sv (p ++ r), sv p] h fun y h' => y = .b true ∧ h' = h := by
  have e1 : ((p.length : Int) ≤ ((p ++ r).length : Int)) = True := eq_true (by rw [List.length_append]; omega)
  have e2 : (p ++ r).take p.length = p := List.take_left
  have e3 : (p ++ r).length ≤ 9223372036854775807 := by rw [List.length_append]; omega
  refine fn_go c56 (by intro hb; cases hb) (by simp) (by simp) fun Q hQ => ?_
  simp only [slotsF, Nat.reduceAdd]
  repeat' (first
    | refine St.h ?_
    | simp (disch := first | omega | (simp only [lnv]; omega)) only [wlk, ↓get_put', ↓reduceIte, seval, Int.toNat_natCast, e1, e2]
    | (with_reducible (first | apply cd_split | apply gd_split)) <;> (intro hc; (try simp only [hcn] at hc); (try simp only [hc]); (try simp only [hcl] at hc); try omega))
  subst hQ
  exact ⟨rfl, rfl⟩
theorem trim1_ok {h : H} {p r : List UInt8} (hs : p.length + r.length ≤ 9223372036854775807) : FnOk Try.prog 51 [sv (p ++ r), sv p] h fun y h' => y = sv r ∧ h' = h := by
  have e2 : (p ++ r).drop p.length = r := List.drop_left
  have e3 : (p ++ r).length ≤ 9223372036854775807 := by rw [List.length_append]; omega
  have e4 : p.length ≤ (p ++ r).length := by rw [List.length_append]; omega
  refine fn_go c51 (by intro hb; cases hb) (by simp) (by simp) fun Q hQ => ?_
  simp only [slotsF, Nat.reduceAdd]
  repeat' (first
    | refine St.h ?_
    | simp (disch := first | omega | (simp only [lnv]; omega)) only [wlk, ↓get_put', ↓reduceIte, seval]
    | (with_reducible (first | apply cd_split | apply gd_split)) <;> (intro hc; (try simp only [hcn] at hc); (try simp only [hc]); (try simp only [hcl] at hc); try omega))
  refine CL.pure (hasPre_ok hs) ?_
  repeat' (first
    | refine St.h ?_
    | simp (disch := first | omega | (simp only [lnv]; omega)) only [wlk, ↓get_put', ↓reduceIte, seval, Int.toNat_natCast, e2]
    | (with_reducible (first | apply cd_split | apply gd_split)) <;> (intro hc; (try simp only [hcn] at hc); (try simp only [hc]); (try simp only [hcl] at hc); try omega))
  subst hQ
  exact ⟨rfl, rfl⟩
theorem trim_ok {h : H} {p r : List UInt8} (hs : p.length + r.length ≤ 9223372036854775807) : FnOk Try.prog 37 [sv (p ++ r), sv p] h fun y h' => y = sv r ∧ h' = h := by
  refine fn_go c37 (by intro hb; cases hb) (by simp) (by simp) fun Q hQ => ?_
  simp only [slotsF, Nat.reduceAdd]
  repeat' (first
    | refine St.h ?_
    | simp (disch := first | omega | (simp only [lnv]; omega)) only [wlk, ↓get_put', ↓reduceIte, seval]
    | (with_reducible (first | apply cd_split | apply gd_split)) <;> (intro hc; (try simp only [hcn] at hc); (try simp only [hc]); (try simp only [hcl] at hc); try omega))
  refine CL.pure (trim1_ok hs) ?_
  repeat' (first
    | refine St.h ?_
    | simp (disch := first | omega | (simp only [lnv]; omega)) only [wlk, ↓get_put', ↓reduceIte, seval]
    | (with_reducible (first | apply cd_split | apply gd_split)) <;> (intro hc; (try simp only [hcn] at hc); (try simp only [hc]); (try simp only [hcl] at hc); try omega))
  subst hQ
  exact ⟨rfl, rfl⟩
theorem layW_ok {h : H} {v : V} {L : List Wri} (hL : Ws h v L) (hB : isB L = true) (hf : B.val h.floor ≤ B.val h.next) : FnOk Try.prog 20 [v] h fun y h' => y = sv (rowsB L) ∧ Stay nowhere h h' := by
  have hl := isB_len hB
  have hr := rowsB_len hB
  have h1 := numB_len (n := 1) (by omega)
  have hln : (numB 1 ++ rowsB L).length ≤ 1000 := by rw [List.length_append]; omega
  have hln2 := numB_len (n := (numB 1 ++ rowsB L).length) (by omega)
  have ho : okB12 ((1 : Nat) : Int) L = true := okB12_iff.2 ⟨hB, by omega, by omega⟩
  have eb : bytB 1 L = (sealB (numB 1 ++ rowsB L), 0) := by
    unfold bytB; rw [show okB12 1 L = true from ho]; rfl
  have eo : openB (sealB (numB 1 ++ rowsB L)) = (numB 1 ++ rowsB L, ((sealB (numB 1 ++ rowsB L)).length : Int), 0) := by
    have := openB_seal (l := numB 1 ++ rowsB L) (more := []) (by omega)
    rwa [List.append_nil] at this
  have e1 : ((1 : Int)).toNat = 1 := rfl
  refine fn_go c20 (by intro hb; cases hb) (by simp) (by simp) fun Q hQ => ?_
  simp only [slotsF, Nat.reduceAdd]
  repeat' (first
    | refine St.h ?_
    | simp (disch := first | omega | (simp only [lnv]; omega)) only [wlk, ↓get_put', ↓reduceIte, seval]
    | (with_reducible (first | apply cd_split | apply gd_split)) <;> (intro hc; (try simp only [hcn] at hc); (try simp only [hc]); (try simp only [hcl] at hc); try omega))
  refine CL.stay (bbytes_ok (seq := 1) hL (by omega) (by omega) (by omega) hf) fun h1 s1 => ?_
  have hf1 := s1.fl hf
  repeat' (first
    | refine St.h ?_
    | simp (disch := first | omega | (simp only [lnv]; omega)) only [wlk, ↓get_put', ↓reduceIte, seval, eb]
    | (with_reducible (first | apply cd_split | apply gd_split)) <;> (intro hc; (try simp only [hcn] at hc); (try simp only [hc]); (try simp only [hcl] at hc); try omega))
  refine CL.stay (open_ok (by rw [sealB_len]; omega) hf1) fun h2 s2 => ?_
  have hf2 := s2.fl hf1
  repeat' (first
    | refine St.h ?_
    | simp (disch := first | omega | (simp only [lnv]; omega)) only [wlk, ↓get_put', ↓reduceIte, seval, opn, eo]
    | (with_reducible (first | apply cd_split | apply gd_split)) <;> (intro hc; (try simp only [hcn] at hc); (try simp only [hc]); (try simp only [hcl] at hc); try omega))
  refine CL.stay (num_ok (by omega) hf2) fun h3 s3 => ?_
  rw [e1]
  repeat' (first
    | refine St.h ?_
    | simp (disch := first | omega | (simp only [lnv]; omega)) only [wlk, ↓get_put', ↓reduceIte, seval]
    | (with_reducible (first | apply cd_split | apply gd_split)) <;> (intro hc; (try simp only [hcn] at hc); (try simp only [hc]); (try simp only [hcl] at hc); try omega))
  refine CL.pure (trim_ok (by omega)) ?_
  repeat' (first
    | refine St.h ?_
    | simp (disch := first | omega | (simp only [lnv]; omega)) only [wlk, ↓get_put', ↓reduceIte, seval]
    | (with_reducible (first | apply cd_split | apply gd_split)) <;> (intro hc; (try simp only [hcn] at hc); (try simp only [hc]); (try simp only [hcl] at hc); try omega))
  subst hQ
  exact ⟨rfl, (s1.trans s2).trans s3⟩
theorem takeW_ok {h : H} {b : List UInt8} (hb : b.length ≤ 150000) (hf : B.val h.floor ≤ B.val h.next) : FnOk Try.prog 42 [sv b] h fun y h' => Ws h' y (tkW b) ∧ (∀ q, isOf y q → B.val h.next ≤ B.val q) ∧ Stay nowhere h h' := by
  have h1 := numB_len (n := 1) (by omega)
  have hln : (numB 1 ++ b).length ≤ 160000 := by rw [List.length_append]; omega
  have hln2 := numB_len (n := (numB 1 ++ b).length) (by omega)
  have e1 : ((1 : Int)).toNat = 1 := rfl
  refine fn_go c42 (by intro hb; cases hb) (by simp) (by simp) fun Q hQ => ?_
  simp only [slotsF, Nat.reduceAdd]
  repeat' (first
    | refine St.h ?_
    | simp (disch := first | omega | (simp only [lnv]; omega)) only [wlk, ↓get_put', ↓reduceIte, seval]
    | (with_reducible (first | apply cd_split | apply gd_split)) <;> (intro hc; (try simp only [hcn] at hc); (try simp only [hc]); (try simp only [hcl] at hc); try omega))
  refine CL.stay (num_ok (by omega) hf) fun h1 s1 => ?_
  have hf1 := s1.fl hf
  rw [e1]
  repeat' (first
    | refine St.h ?_
    | simp (disch := first | omega | (simp only [lnv]; omega)) only [wlk, ↓get_put', ↓reduceIte, seval]
    | (with_reducible (first | apply cd_split | apply gd_split)) <;> (intro hc; (try simp only [hcn] at hc); (try simp only [hc]); (try simp only [hcl] at hc); try omega))
  refine CL.stay (seal_ok (by omega) hf1) fun h2 s2 => ?_
  have hf2 := s2.fl hf1
  repeat' (first
    | refine St.h ?_
    | simp (disch := first | omega | (simp only [lnv]; omega)) only [wlk, ↓get_put', ↓reduceIte, seval]
    | (with_reducible (first | apply cd_split | apply gd_split)) <;> (intro hc; (try simp only [hcn] at hc); (try simp only [hc]); (try simp only [hcl] at hc); try omega))
  refine CL.mk (bread_ok12 (by rw [sealB_len]; omega) hf2) ?_
  rintro _ h3 ⟨u, rfl, hu, uo, s3⟩
  repeat' (first
    | refine St.h ?_
    | simp (disch := first | omega | (simp only [lnv]; omega)) only [wlk, ↓get_put', ↓reduceIte, seval, rdV]
    | (with_reducible (first | apply cd_split | apply gd_split)) <;> (intro hc; (try simp only [hcn] at hc); (try simp only [hc]); (try simp only [hcl] at hc); try omega))
  subst hQ
  exact ⟨hu, fun q hq => Nat.le_trans (s1.trans s2).next (uo q hq), (s1.trans s2).trans s3⟩
theorem ibytes_ok0 {h : H} {v : V} {lv n tn : Int} {sh : Bool} {ws : List Wri} (hL : Ws h v ws) (hl : ws.length ≤ 10000) (hf : B.val h.floor ≤ B.val h.next) : FnOk Try.prog 9 [.a [.i .i64 lv, .i .i64 n, .i .i64 tn, .b sh, v]] h fun y h' =>
    y = .tu [sv (bytI ⟨lv, n, tn, sh, ws⟩).1, .i .i64 (if isI ⟨lv, n, tn, sh, ws⟩ then 0 else 10)] ∧ Stay nowhere h h' := by
  refine fn_go c9 (by intro hb; cases hb) (by simp) (by simp) fun Q hQ => ?_
  simp only [slotsF, Nat.reduceAdd]
  repeat' (first
    | refine St.h ?_
    | simp (disch := first | omega | (simp only [lnv]; omega)) only [wlk, ↓get_put', ↓reduceIte, seval]
    | (with_reducible (first | apply cd_split | apply gd_split)) <;> (intro hc; (try simp only [hcn] at hc); (try simp only [hc]); (try simp only [hcl] at hc); try omega))
  refine AL.own (by simp) hf fun h1 s1 n1 o1 => ?_
  have hf1 := s1.fl hf
  have hL1 := hL.grow s1
  have r1 := o1.row
  repeat' (first
    | refine St.h ?_
    | simp (disch := first | omega | (simp only [lnv]; omega)) only [wlk, ↓get_put', ↓reduceIte, seval, r1.l1, r1.ln]
    | (with_reducible (first | apply cd_split | apply gd_split)) <;> (intro hc; (try simp only [hcn] at hc); (try simp only [hc]); (try simp only [hcl] at hc); try omega))
  refine CL.stay (iis_ok0 hL1 hl hf1) fun h2 s2 => ?_
  have o2 := o1.stay s2 fun e => e
  have r2 := o2.row
  have hL2 := hL1.grow s2
  have hf2 := s2.fl hf1
  have s02 := s1.trans s2
  cases hi : isI ⟨lv, n, tn, sh, ws⟩ with
  | false =>
    repeat' (first
      | refine St.h ?_
      | simp (disch := first | omega | (simp only [lnv]; omega)) only [wlk, ↓get_put', ↓reduceIte, seval]
      | (with_reducible (first | apply cd_split | apply gd_split)) <;> (intro hc; (try simp only [hcn] at hc); (try simp only [hc]); (try simp only [hcl] at hc); try omega))
    subst hQ
    unfold bytI
    rw [hi]
    exact ⟨rfl, s02⟩
  | true =>
  obtain ⟨g1, g2, g3, g4, g5, g6⟩ : 0 ≤ lv ∧ lv < 6 ∧ 1 ≤ n ∧ n ≤ 1000000 ∧ 0 ≤ tn ∧ tn ≤ 1000000 := isI_nums hi
  have hB : isB ws = true := isI_isB hi
  have q1 := numB_len (n := lv.toNat) (by omega)
  have q2 := numB_len (n := n.toNat) (by omega)
  have q3 := numB_len (n := tn.toNat) (by omega)
  have q4 := rowsB_len hB
  have hbl := bodyI_len hi
  cases sh with
  | false =>
    have hbd : bodyI ⟨lv, n, tn, false, ws⟩ = numB lv.toNat ++ numB n.toNat ++ numB tn.toNat ++ [0] ++ rowsB ws := by unfold bodyI kindB; simp
    have hbx := hbl
    rw [hbd] at hbx
    simp only [List.length_append, List.length_cons, List.length_nil] at hbx
    repeat' (first
      | refine St.h ?_
      | simp (disch := first | omega | (simp only [lnv]; omega)) only [wlk, ↓get_put', ↓reduceIte, seval, r2.l1, r2.ln]
      | (with_reducible (first | apply cd_split | apply gd_split)) <;> (intro hc; (try simp only [hcn] at hc); (try simp only [hc]); (try simp only [hcl] at hc); try omega))
    refine CL.stayU (num_ok (by omega) (re_fl _)) fun h3 s3 => ?_
    have o3 := o2.stay s3 fun h => h
    have hf3 := s3.fl hf2
    repeat' (first
      | refine St.h ?_
      | simp (disch := first | omega | (simp only [lnv]; omega)) only [wlk, ↓get_put', ↓reduceIte, seval, o3.row.l1]
      | (with_reducible (first | apply cd_split | apply gd_split)) <;> (intro hc; (try simp only [hcn] at hc); (try simp only [hc]); (try simp only [hcl] at hc); try omega))
    refine CL.stayU (num_ok (by omega) (re_fl _)) fun h4 s4 => ?_
    have o4 := o3.stay s4 fun h => h
    have hf4 := s4.fl hf3
    repeat' (first
      | refine St.h ?_
      | simp (disch := first | omega | (simp only [lnv]; omega)) only [wlk, ↓get_put', ↓reduceIte, seval, o4.row.l1]
      | (with_reducible (first | apply cd_split | apply gd_split)) <;> (intro hc; (try simp only [hcn] at hc); (try simp only [hc]); (try simp only [hcl] at hc); try omega))
    refine CL.stayU (num_ok (by omega) (re_fl _)) fun h5 s5 => ?_
    have o5 := o4.stay s5 fun h => h
    have hf5 := s5.fl hf4
    repeat' (first
      | refine St.h ?_
      | simp (disch := first | omega | (simp only [lnv]; omega)) only [wlk, ↓get_put', ↓reduceIte, seval, o5.row.l1]
      | (with_reducible (first | apply cd_split | apply gd_split)) <;> (intro hc; (try simp only [hcn] at hc); (try simp only [hc]); (try simp only [hcl] at hc); try omega))
    refine AL.strU (bs := [0]) rfl (by simp) rfl rfl (by simp) hf5 fun h6 u6 s6 => ?_
    have o6 := o5.stay s6 fun h => h
    have hf6 := s6.fl hf5
    have s26 := ((s3.trans s4).trans s5).trans s6
    have hL6 := hL2.grow s26
    repeat' (first
      | refine St.h ?_
      | simp (disch := first | omega | (simp only [lnv]; omega)) only [wlk, ↓get_put', ↓reduceIte, seval, o6.row.l1]
      | (with_reducible (first | apply cd_split | apply gd_split)) <;> (intro hc; (try simp only [hcn] at hc); (try simp only [hc]); (try simp only [hcl] at hc); try omega))
    refine CL.stay (layW_ok hL6 hB hf6) fun h7 s7 => ?_
    have hf7 := s7.fl hf6
    repeat' (first
      | refine St.h ?_
      | simp (disch := first | omega | (simp only [lnv]; omega)) only [wlk, ↓get_put', ↓reduceIte, seval]
      | (with_reducible (first | apply cd_split | apply gd_split)) <;> (intro hc; (try simp only [hcn] at hc); (try simp only [hc]); (try simp only [hcl] at hc); try omega))
    refine CL.stay (seal_ok (by simp only [List.length_append, List.length_cons, List.length_nil]; omega) hf7) fun h8 s8 => ?_
    repeat' (first
      | refine St.h ?_
      | simp (disch := first | omega | (simp only [lnv]; omega)) only [wlk, ↓get_put', ↓reduceIte, seval]
      | (with_reducible (first | apply cd_split | apply gd_split)) <;> (intro hc; (try simp only [hcn] at hc); (try simp only [hc]); (try simp only [hcl] at hc); try omega))
    subst hQ
    refine ⟨?_, s02.trans ((s26.trans s7).trans s8)⟩
    unfold bytI itmB
    rw [hi, hbd]
    rfl
  | true =>
    have hbd : bodyI ⟨lv, n, tn, true, ws⟩ = numB lv.toNat ++ numB n.toNat ++ numB tn.toNat ++ [1] ++ rowsB ws := by unfold bodyI kindB; simp
    have hbx := hbl
    rw [hbd] at hbx
    simp only [List.length_append, List.length_cons, List.length_nil] at hbx
    repeat' (first
      | refine St.h ?_
      | simp (disch := first | omega | (simp only [lnv]; omega)) only [wlk, ↓get_put', ↓reduceIte, seval, r2.l1, r2.ln]
      | (with_reducible (first | apply cd_split | apply gd_split)) <;> (intro hc; (try simp only [hcn] at hc); (try simp only [hc]); (try simp only [hcl] at hc); try omega))
    refine CL.stayU (num_ok (by omega) (re_fl _)) fun h3 s3 => ?_
    have o3 := o2.stay s3 fun h => h
    have hf3 := s3.fl hf2
    repeat' (first
      | refine St.h ?_
      | simp (disch := first | omega | (simp only [lnv]; omega)) only [wlk, ↓get_put', ↓reduceIte, seval, o3.row.l1]
      | (with_reducible (first | apply cd_split | apply gd_split)) <;> (intro hc; (try simp only [hcn] at hc); (try simp only [hc]); (try simp only [hcl] at hc); try omega))
    refine CL.stayU (num_ok (by omega) (re_fl _)) fun h4 s4 => ?_
    have o4 := o3.stay s4 fun h => h
    have hf4 := s4.fl hf3
    repeat' (first
      | refine St.h ?_
      | simp (disch := first | omega | (simp only [lnv]; omega)) only [wlk, ↓get_put', ↓reduceIte, seval, o4.row.l1]
      | (with_reducible (first | apply cd_split | apply gd_split)) <;> (intro hc; (try simp only [hcn] at hc); (try simp only [hc]); (try simp only [hcl] at hc); try omega))
    refine CL.stayU (num_ok (by omega) (re_fl _)) fun h5 s5 => ?_
    have o5 := o4.stay s5 fun h => h
    have hf5 := s5.fl hf4
    repeat' (first
      | refine St.h ?_
      | simp (disch := first | omega | (simp only [lnv]; omega)) only [wlk, ↓get_put', ↓reduceIte, seval, o5.row.l1]
      | (with_reducible (first | apply cd_split | apply gd_split)) <;> (intro hc; (try simp only [hcn] at hc); (try simp only [hc]); (try simp only [hcl] at hc); try omega))
    refine AL.strU (bs := [1]) rfl (by simp) rfl rfl (by simp) hf5 fun h6 u6 s6 => ?_
    have o6 := o5.stay s6 fun h => h
    have hf6 := s6.fl hf5
    have s26 := ((s3.trans s4).trans s5).trans s6
    have hL6 := hL2.grow s26
    repeat' (first
      | refine St.h ?_
      | simp (disch := first | omega | (simp only [lnv]; omega)) only [wlk, ↓get_put', ↓reduceIte, seval, o6.row.l1]
      | (with_reducible (first | apply cd_split | apply gd_split)) <;> (intro hc; (try simp only [hcn] at hc); (try simp only [hc]); (try simp only [hcl] at hc); try omega))
    refine CL.stay (layW_ok hL6 hB hf6) fun h7 s7 => ?_
    have hf7 := s7.fl hf6
    repeat' (first
      | refine St.h ?_
      | simp (disch := first | omega | (simp only [lnv]; omega)) only [wlk, ↓get_put', ↓reduceIte, seval]
      | (with_reducible (first | apply cd_split | apply gd_split)) <;> (intro hc; (try simp only [hcn] at hc); (try simp only [hc]); (try simp only [hcl] at hc); try omega))
    refine CL.stay (seal_ok (by simp only [List.length_append, List.length_cons, List.length_nil]; omega) hf7) fun h8 s8 => ?_
    repeat' (first
      | refine St.h ?_
      | simp (disch := first | omega | (simp only [lnv]; omega)) only [wlk, ↓get_put', ↓reduceIte, seval]
      | (with_reducible (first | apply cd_split | apply gd_split)) <;> (intro hc; (try simp only [hcn] at hc); (try simp only [hc]); (try simp only [hcl] at hc); try omega))
    subst hQ
    refine ⟨?_, s02.trans ((s26.trans s7).trans s8)⟩
    unfold bytI itmB
    rw [hi, hbd]
    rfl
theorem ibytes_ok {h : H} {v : V} {lv n tn : Int} {sh : Bool} {ws : List Wri} (hL : Ws h v ws) (_ : SwN 3 v) (hl : ws.length ≤ 10000) (hf : B.val h.floor ≤ B.val h.next) : FnOk Try.prog 9 [.a [.i .i64 lv, .i .i64 n, .i .i64 tn, .b sh, v]] h fun y h' =>
    y = .tu [sv (bytI ⟨lv, n, tn, sh, ws⟩).1, .i .i64 (if isI ⟨lv, n, tn, sh, ws⟩ then 0 else 10)] ∧ Stay nowhere h h' := ibytes_ok0 hL hl hf
def itJ (u : V) (x : Itm) : V := .a [.i .i64 x.lv, .i .i64 x.n, .i .i64 x.tn, .b x.sh, u]
theorem itake_ok {h : H} {b : List UInt8} (hb : b.length ≤ 150000) (hf : B.val h.floor ≤ B.val h.next) : FnOk Try.prog 25 [sv b] h fun y h' => ∃ u, y = itJ u (tkI b) ∧ Ws h' u (tkI b).ws ∧ (∀ q, isOf u q → B.val h.next ≤ B.val q) ∧ Stay nowhere h h' := by
  refine fn_go c25 (by intro hb; cases hb) (by simp) (by simp) fun Q hQ => ?_
  simp only [slotsF, Nat.reduceAdd]
  repeat' (first
    | refine St.h ?_
    | simp (disch := first | omega | (simp only [lnv]; omega)) only [wlk, ↓get_put', ↓reduceIte, seval]
    | (with_reducible (first | apply cd_split | apply gd_split)) <;> (intro hc; (try simp only [hcn] at hc); (try simp only [hc]); (try simp only [hcl] at hc); try omega))
  refine AL.own (by simp) hf fun h1 s1 n1 o1 => ?_
  have hf1 := s1.fl hf
  repeat' (first
    | refine St.h ?_
    | simp (disch := first | omega | (simp only [lnv]; omega)) only [wlk, ↓get_put', ↓reduceIte, seval]
    | (with_reducible (first | apply cd_split | apply gd_split)) <;> (intro hc; (try simp only [hcn] at hc); (try simp only [hc]); (try simp only [hcl] at hc); try omega))
  refine AL.own (by simp) hf1 fun h2 s2 n2 q2 => ?_
  have hf2 := s2.fl hf1
  have s02 := s1.trans s2
  have o2 := o1.stay s2 fun e => e
  have none_ok : ∀ {g : H}, Stay nowhere h g → tkI b = itmZ → ∃ u, V.a [.i .i64 0, .i .i64 0, .i .i64 0, .b false, .l0] = itJ u (tkI b) ∧ Ws g u (tkI b).ws ∧ (∀ q, isOf u q → B.val h.next ≤ B.val q) ∧ Stay nowhere h g := fun {g} st e1 => by
    rw [e1]
    refine ⟨.l0, rfl, Ss.nil, ?_, st⟩
    rintro i ⟨_, _, _, _, _, e⟩; cases e
  repeat' (first
    | refine St.h ?_
    | simp (disch := first | omega | (simp only [lnv]; omega)) only [wlk, ↓get_put', ↓reduceIte, seval]
    | (with_reducible (first | apply cd_split | apply gd_split)) <;> (intro hc; (try simp only [hcn] at hc); (try simp only [hc]); (try simp only [hcl] at hc); try omega))
  refine Ok.lp (fun m t g => ∃ (i p : Nat) (xs : List V), m = 3 - i ∧ AtJ b p xs i ∧ p ≤ b.length ∧ Stay nowhere h g ∧ Ev.Own g h.next [.i .i64 0, .i .i64 0, .i .i64 0, .b false, .l0] ∧ Ev.Own g h1.next xs ∧ get 0 t = sv b ∧ get 2 t = .p h.next 0 0 5 ∧ get 3 t = .p h1.next 0 0 3 ∧ get 4 t = .i .i64 (p : Int) ∧ get 5 t = .i .i64 (i : Int)) 3 ?_ ?_
  · simp (disch := first | omega | (simp only [lnv]; omega)) only [wlk, ↓get_put', ↓reduceIte, seval]
    refine ⟨0, 0, _, by omega, .inl ⟨rfl, rfl, rfl⟩, by omega, s02, o2, q2, ?_⟩
    repeat' (first | trivial | rfl | refine And.intro ?_ ?_)
  rintro I hI m t g ⟨i, p, xs, rfl, hA, hp, st, og, qg, f0, f2, f3, f4, f5⟩
  have hfg := st.fl hf
  obtain ⟨hxl, hi3⟩ := hA.len
  have ho : ∀ (g2 : H), Stay (fun i => i = h.next) g g2 → Stay nowhere h g2 := fun g2 t => st.past' t fun i e => by rw [e]; exact Nat.le_refl _
  by_cases hil : i < 3
  · have ep : ((p : Int)).toNat = p := by omega
    have hz0 : ((10 : Int) = 0) = False := eq_false (by decide)
    have hz1 : ((12 : Int) = 0) = False := eq_false (by decide)
    have d3 : ((i : Int) < 3) = True := eq_true (by omega)
    repeat' (first
      | refine St.h ?_
      | simp (disch := first | omega | (simp only [lnv]; omega)) only [wlk, ↓get_put', ↓reduceIte, seval, f0, f2, f3, f4, f5, ep, d3]
      | (with_reducible (first | apply cd_split | apply gd_split)) <;> (intro hc; (try simp only [hcn] at hc); (try simp only [hc]); (try simp only [hcl] at hc); try omega))
    refine CL.pure (takeNum_ok (by rw [List.length_drop]; omega)) ?_
    rcases takeN_range (b.drop p) with (e1 | e1) | ⟨q, k, e1, z1, k1, k2, k3⟩
    · have e0 : tkI b = itmZ := hA.no hil (by rw [e1]; decide)
      repeat' (first
        | refine St.h ?_
        | simp (disch := first | omega | (simp only [lnv]; omega)) only [wlk, ↓get_put', ↓reduceIte, seval, f0, f2, f3, f4, f5, e1, tri, hz0, d3]
        | (with_reducible (first | apply cd_split | apply gd_split)) <;> (intro hc; (try simp only [hcn] at hc); (try simp only [hc]); (try simp only [hcl] at hc); try omega))
      refine ST.all og rfl rfl (by simp) (by simp) fun g2 o4 t2 => ?_
      repeat' (first
        | refine St.h ?_
        | simp (disch := first | omega | (simp only [lnv]; omega)) only [wlk, ↓get_put', ↓reduceIte, seval, f2, o4.ra5]
        | (with_reducible (first | apply cd_split | apply gd_split)) <;> (intro hc; (try simp only [hcn] at hc); (try simp only [hc]); (try simp only [hcl] at hc); try omega))
      subst hQ
      exact none_ok (ho g2 t2) e0
    · have e0 : tkI b = itmZ := hA.no hil (by rw [e1]; decide)
      repeat' (first
        | refine St.h ?_
        | simp (disch := first | omega | (simp only [lnv]; omega)) only [wlk, ↓get_put', ↓reduceIte, seval, f0, f2, f3, f4, f5, e1, tri, hz1, d3]
        | (with_reducible (first | apply cd_split | apply gd_split)) <;> (intro hc; (try simp only [hcn] at hc); (try simp only [hc]); (try simp only [hcl] at hc); try omega))
      refine ST.all og rfl rfl (by simp) (by simp) fun g2 o4 t2 => ?_
      repeat' (first
        | refine St.h ?_
        | simp (disch := first | omega | (simp only [lnv]; omega)) only [wlk, ↓get_put', ↓reduceIte, seval, f2, o4.ra5]
        | (with_reducible (first | apply cd_split | apply gd_split)) <;> (intro hc; (try simp only [hcn] at hc); (try simp only [hc]); (try simp only [hcl] at hc); try omega))
      subst hQ
      exact none_ok (ho g2 t2) e0
    · rw [List.length_drop] at k3
      have hA2 := hA.next hil e1
      have ei : ((i : Int)).toNat = i := by omega
      repeat' (first
        | refine St.h ?_
        | simp (disch := first | omega | (simp only [lnv]; omega)) only [wlk, ↓get_put', ↓reduceIte, seval, f0, f2, f3, f4, f5, e1, tri, ei]
        | (with_reducible (first | apply cd_split | apply gd_split)) <;> (intro hc; (try simp only [hcn] at hc); (try simp only [hc]); (try simp only [hcl] at hc); try omega))
      refine ST.own (y := .i .i64 (q : Int)) qg rfl rfl (by omega) (by omega) fun g2 q4 t2 => ?_
      have nx1 := s1.next
      have l1 := own_lt' o1
      have st2 : Stay nowhere h g2 := st.past' t2 fun i e => by rw [e]; omega
      have o4 := og.stay t2 fun e => by have := congrArg B.val e; omega
      repeat' (first
        | refine St.h ?_
        | simp (disch := first | omega | (simp only [lnv]; omega)) only [wlk, ↓get_put', ↓reduceIte, seval, f0, f2, f3, f4, f5]
        | (with_reducible (first | apply cd_split | apply gd_split)) <;> (intro hc; (try simp only [hcn] at hc); (try simp only [hc]); (try simp only [hcl] at hc); try omega))
      refine lp_next hI (3 - (i + 1)) (by omega) ⟨i + 1, p + k, _, rfl, hA2, by omega, st2, o4, q4, ?_⟩
      repeat' (first | trivial | rfl | (simp (disch := first | omega | (simp only [lnv]; omega)) only [wlk, ↓get_put', ↓reduceIte, seval, f0, f2, f3, f4, f5]) | refine And.intro ?_ ?_)
  obtain rfl : i = 3 := by omega
  obtain ⟨x, y, z, rfl, e3⟩ : ∃ x y z, xs = [.i .i64 x, .i .i64 y, .i .i64 z] ∧ tkI b = hd3 b p x y z := by
    rcases hA with ⟨e, _⟩ | ⟨_, e, _⟩ | ⟨_, _, e, _⟩ | ⟨x, y, z, _, e1, e2⟩
    · omega
    · omega
    · omega
    · exact ⟨x, y, z, e1, e2⟩
  by_cases hpe : p = b.length
  · have e0 : tkI b = itmZ := by
      rw [e3]; unfold hd3
      rw [List.drop_eq_nil_of_le (by omega)]
    have d4 : ((p : Int) = (b.length : Int)) = True := eq_true (by omega)
    repeat' (first
      | refine St.h ?_
      | simp (disch := first | omega | (simp only [lnv]; omega)) only [wlk, ↓get_put', ↓reduceIte, seval, f0, f2, f3, f4, f5, d4]
      | (with_reducible (first | apply cd_split | apply gd_split)) <;> (intro hc; (try simp only [hcn] at hc); (try simp only [hc]); (try simp only [hcl] at hc); try omega))
    refine ST.all og rfl rfl (by simp) (by simp) fun g2 o4 t2 => ?_
    repeat' (first
      | refine St.h ?_
      | simp (disch := first | omega | (simp only [lnv]; omega)) only [wlk, ↓get_put', ↓reduceIte, seval, f2, o4.ra5]
      | (with_reducible (first | apply cd_split | apply gd_split)) <;> (intro hc; (try simp only [hcn] at hc); (try simp only [hc]); (try simp only [hcl] at hc); try omega))
    subst hQ
    exact none_ok (ho g2 t2) e0
  have hpl : p < b.length := by omega
  have d4 : ((p : Int) = (b.length : Int)) = False := eq_false (by omega)
  have ed : b.drop p = b.getD p 0 :: b.drop (p + 1) := by
    rw [List.drop_eq_getElem_cons hpl]; simp [List.getD, hpl]
  have e4 : tkI b = ⟨x, y, z, decide (b.getD p 0 = 1), tkW (b.drop (p + 1))⟩ := by
    rw [e3]; unfold hd3; rw [ed]
  have ep2 : ((p : Int)).toNat = p := by omega
  have ep : ((p : Int) + 1).toNat = p + 1 := by omega
  have r5 := qg.row
  repeat' (first
    | with_reducible refine fliStop ?_
    | refine St.h ?_
    | simp (disch := first | omega | (simp only [lnv]; omega)) only [wlk, ↓get_put', ↓reduceIte, seval, f0, f2, f3, f4, f5, d4]
    | (with_reducible (first | apply cd_split | apply gd_split)) <;> (intro hc; (try simp only [hcn] at hc); (try simp only [hc]); (try simp only [hcl] at hc); try omega))
  refine Ok.chainS hmix [1, 3, 5] 15 (fun g => Row g h1.next 0 0 [.i .i64 x, .i .i64 y, .i .i64 z]) (by decide) (by decide) r5 ?_
  refine cws_c (by decide) ?_
  repeat' (first
    | refine St.h ?_
    | simp (disch := first | omega | (simp only [lnv]; omega)) only [wlk, ↓get_put', ↓reduceIte, seval, f0, f2, f3, f4, f5]
    | (with_reducible (first | apply cd_split | apply gd_split)) <;> (intro hc; (try simp only [hcn] at hc); (try simp only [hc]); (try simp only [hcl] at hc); try omega))
  refine ⟨fun _ => r5, ?_⟩
  refine cws_f (.i .i64 x) r5 (fun g hg => by simp (disch := first | omega | (simp only [lnv]; omega)) only [wlk, ↓get_put', ↓reduceIte, seval, f0, f2, f3, f4, f5, hg.l1]) ?_
  refine cws_c (by decide) ?_
  repeat' (first
    | refine St.h ?_
    | simp (disch := first | omega | (simp only [lnv]; omega)) only [wlk, ↓get_put', ↓reduceIte, seval, f0, f2, f3, f4, f5]
    | (with_reducible (first | apply cd_split | apply gd_split)) <;> (intro hc; (try simp only [hcn] at hc); (try simp only [hc]); (try simp only [hcl] at hc); try omega))
  refine ⟨fun _ => r5, ?_⟩
  refine cws_f (.i .i64 y) r5 (fun g hg => by simp (disch := first | omega | (simp only [lnv]; omega)) only [wlk, ↓get_put', ↓reduceIte, seval, f0, f2, f3, f4, f5, hg.l1]) ?_
  refine cws_c (by decide) ?_
  repeat' (first
    | refine St.h ?_
    | simp (disch := first | omega | (simp only [lnv]; omega)) only [wlk, ↓get_put', ↓reduceIte, seval, f0, f2, f3, f4, f5]
    | (with_reducible (first | apply cd_split | apply gd_split)) <;> (intro hc; (try simp only [hcn] at hc); (try simp only [hc]); (try simp only [hcl] at hc); try omega))
  refine ⟨fun _ => r5, ?_⟩
  refine cws_f (.i .i64 z) r5 (fun g hg => by simp (disch := first | omega | (simp only [lnv]; omega)) only [wlk, ↓get_put', ↓reduceIte, seval, f0, f2, f3, f4, f5, hg.l1]) ?_
  refine cws_c (by decide) ?_
  repeat' (first
    | refine St.h ?_
    | simp (disch := first | omega | (simp only [lnv]; omega)) only [wlk, ↓get_put', ↓reduceIte, seval, f0, f2, f3, f4, f5, ep, ep2]
    | (with_reducible (first | apply cd_split | apply gd_split)) <;> (intro hc; (try simp only [hcn] at hc); (try simp only [hc]); (try simp only [hcl] at hc); try omega))
  refine ⟨fun _ => r5, ?_⟩
  refine cws_c (by decide) ?_
  repeat' (first
    | refine St.h ?_
    | simp (disch := first | omega | (simp only [lnv]; omega)) only [wlk, ↓get_put', ↓reduceIte, seval, f0, f2, f3, f4, f5, ep, ep2]
    | (with_reducible (first | apply cd_split | apply gd_split)) <;> (intro hc; (try simp only [hcn] at hc); (try simp only [hc]); (try simp only [hcl] at hc); try omega))
  refine ⟨fun _ => r5, ?_⟩
  refine cws_c (by decide) ?_
  repeat' (first
    | refine St.h ?_
    | simp (disch := first | omega | (simp only [lnv]; omega)) only [wlk, ↓get_put', ↓reduceIte, seval, f0, f2, f3, f4, f5, ep, ep2]
    | (with_reducible (first | apply cd_split | apply gd_split)) <;> (intro hc; (try simp only [hcn] at hc); (try simp only [hc]); (try simp only [hcl] at hc); try omega))
  refine ⟨fun _ => r5, ?_⟩
  refine cws_c (by decide) ?_
  repeat' (first
    | refine St.h ?_
    | simp (disch := first | omega | (simp only [lnv]; omega)) only [wlk, ↓get_put', ↓reduceIte, seval, f0, f2, f3, f4, f5, ep, ep2]
    | (with_reducible (first | apply cd_split | apply gd_split)) <;> (intro hc; (try simp only [hcn] at hc); (try simp only [hc]); (try simp only [hcl] at hc); try omega))
  refine ⟨fun _ => r5, ?_⟩
  refine cws_c (by decide) ?_
  repeat' (first
    | refine St.h ?_
    | simp (disch := first | omega | (simp only [lnv]; omega)) only [wlk, ↓get_put', ↓reduceIte, seval, f0, f2, f3, f4, f5, ep, ep2]
    | (with_reducible (first | apply cd_split | apply gd_split)) <;> (intro hc; (try simp only [hcn] at hc); (try simp only [hc]); (try simp only [hcl] at hc); try omega))
  refine ⟨fun _ => r5, ?_⟩
  refine cws_c (by decide) ?_
  repeat' (first
    | refine St.h ?_
    | simp (disch := first | omega | (simp only [lnv]; omega)) only [wlk, ↓get_put', ↓reduceIte, seval, f0, f2, f3, f4, f5, ep, ep2]
    | (with_reducible (first | apply cd_split | apply gd_split)) <;> (intro hc; (try simp only [hcn] at hc); (try simp only [hc]); (try simp only [hcl] at hc); try omega))
  refine ⟨fun _ => r5, ?_⟩
  refine cws_c (by decide) ?_
  repeat' (first
    | refine St.h ?_
    | simp (disch := first | omega | (simp only [lnv]; omega)) only [wlk, ↓get_put', ↓reduceIte, seval, f0, f2, f3, f4, f5, ep, ep2]
    | (with_reducible (first | apply cd_split | apply gd_split)) <;> (intro hc; (try simp only [hcn] at hc); (try simp only [hc]); (try simp only [hcl] at hc); try omega))
  refine ⟨fun _ => r5, ?_⟩
  refine cws_c (by decide) ?_
  repeat' (first
    | refine St.h ?_
    | simp (disch := first | omega | (simp only [lnv]; omega)) only [wlk, ↓get_put', ↓reduceIte, seval, f0, f2, f3, f4, f5, ep, ep2]
    | (with_reducible (first | apply cd_split | apply gd_split)) <;> (intro hc; (try simp only [hcn] at hc); (try simp only [hc]); (try simp only [hcl] at hc); try omega))
  refine ⟨fun _ => r5, ?_⟩
  refine cws_c (by decide) ?_
  repeat' (first
    | refine St.h ?_
    | simp (disch := first | omega | (simp only [lnv]; omega)) only [wlk, ↓get_put', ↓reduceIte, seval, f0, f2, f3, f4, f5, ep, ep2]
    | (with_reducible (first | apply cd_split | apply gd_split)) <;> (intro hc; (try simp only [hcn] at hc); (try simp only [hc]); (try simp only [hcl] at hc); try omega))
  refine CL.mk (takeW_ok (b := b.drop (p + 1)) (by rw [List.length_drop]; omega) hfg) ?_
  rintro u g2 ⟨hu, uo, s9⟩
  have og2 := og.stay s9 fun e => e
  have r6 := (qg.stay s9 fun e => e).row
  have u1 := ws_one hu
  have lt0 := own_lt' og
  repeat' (first
    | refine St.h ?_
    | simp (disch := first | omega | (simp only [lnv]; omega)) only [wlk, ↓get_put', ↓reduceIte, seval, f0, f2, f3, f4, f5, ep, ep2]
    | (with_reducible (first | apply cd_split | apply gd_split)) <;> (intro hc; (try simp only [hcn] at hc); (try simp only [hc]); (try simp only [hcl] at hc); try omega))
  refine ⟨fun _ => r6, ?_⟩
  refine cws_c (by decide) ?_
  repeat' (first
    | refine St.h ?_
    | simp (disch := first | omega | (simp only [lnv]; omega)) only [wlk, ↓get_put', ↓reduceIte, seval, f0, f2, f3, f4, f5, ep, ep2, fp_ws hu]
    | (with_reducible (first | apply cd_split | apply gd_split)) <;> (intro hc; (try simp only [hcn] at hc); (try simp only [hc]); (try simp only [hcl] at hc); try omega))
  refine ⟨fun _ => r6, ?_⟩
  refine cws_0 (by decide) ?_
  have ebt : decide (((b.getD p 0).toNat : Int) = 1) = decide (b.getD p 0 = 1) := decide_eq_decide.2 ⟨fun h => UInt8.toNat_inj.1 (by show _ = 1; omega), fun h => by rw [h]; rfl⟩
  repeat' (first
    | refine St.h ?_
    | simp (disch := first | omega | (simp only [lnv]; omega)) only [wlk, ↓get_put', ↓reduceIte, seval, f0, f2, f3, f4, f5, ep, ep2]
    | (with_reducible (first | apply cd_split | apply gd_split)) <;> (intro hc; (try simp only [hcn] at hc); (try simp only [hc]); (try simp only [hcl] at hc); try omega))
  refine ST.all og2 rfl (one_it u1.2 x y z _) (by simp) (by simp) fun g4 o11 s11 => ?_
  have hu4 : Ws g4 u (tkW (b.drop (p + 1))) := Ss.stay hu s11 fun q hq e => by have := uo q hq; rw [e] at this; omega
  have st4 : Stay nowhere h g4 := (st.trans s9).past' s11 fun i e => by rw [e]; exact Nat.le_refl _
  repeat' (first
    | refine St.h ?_
    | simp (disch := first | omega | (simp only [lnv]; omega)) only [wlk, ↓get_put', ↓reduceIte, seval, f0, f2, f3, f4, f5, ep, ep2]
    | (with_reducible (first | apply cd_split | apply gd_split)) <;> (intro hc; (try simp only [hcn] at hc); (try simp only [hc]); (try simp only [hcl] at hc); try omega))
  refine ⟨fun h => absurd h (by decide), ?_⟩
  refine cws_n ?_
  repeat' (first
    | refine St.h ?_
    | simp (disch := first | omega | (simp only [lnv]; omega)) only [wlk, ↓get_put', ↓reduceIte, seval, f2, o11.ra5]
    | (with_reducible (first | apply cd_split | apply gd_split)) <;> (intro hc; (try simp only [hcn] at hc); (try simp only [hc]); (try simp only [hcl] at hc); try omega))
  subst hQ
  rw [ebt]
  exact ⟨u, by rw [e4]; rfl, by rw [e4]; exact hu4, fun q hq => Nat.le_trans st.next (uo q hq), st4⟩
theorem iread_ok {h : H} {s : List UInt8} (hs : s.length ≤ 100000) (hf : B.val h.floor ≤ B.val h.next) : FnOk Try.prog 11 [sv s] h fun y h' =>
    ∃ u, y = rdI u (readI s) ∧ Ws h' u (readI s).1.ws ∧ (∀ q, isOf u q → B.val h.next ≤ B.val q) ∧ Stay nowhere h h' := by
  refine fn_go c11 (by intro hb; cases hb) (by simp) (by simp) fun Q hQ => ?_
  simp only [slotsF, Nat.reduceAdd]
  repeat' (first
    | refine St.h ?_
    | simp (disch := first | omega | (simp only [lnv]; omega)) only [wlk, ↓get_put', ↓reduceIte, seval]
    | (with_reducible (first | apply cd_split | apply gd_split)) <;> (intro hc; (try simp only [hcn] at hc); (try simp only [hc]); (try simp only [hcl] at hc); try omega))
  refine AL.own (by simp) hf fun h1 s1 n1 o1 => ?_
  have hf1 := s1.fl hf
  have lt1 := own_lt' o1
  repeat' (first
    | refine St.h ?_
    | simp (disch := first | omega | (simp only [lnv]; omega)) only [wlk, ↓get_put', ↓reduceIte, seval]
    | (with_reducible (first | apply cd_split | apply gd_split)) <;> (intro hc; (try simp only [hcn] at hc); (try simp only [hc]); (try simp only [hcl] at hc); try omega))
  refine CL.stay (open_ok (by omega) hf1) fun h2 s2 => ?_
  have hf2 := s2.fl hf1
  have s02 := s1.trans s2
  have o2 := o1.stay s2 fun e => e
  have none_ok : ∀ {g : H} (e : Int), Stay nowhere h g → readI s = (itmZ, 0, e) → ∃ u, V.tu [.a [.i .i64 0, .i .i64 0, .i .i64 0, .b false, .l0], .i .i64 0, .i .i64 e] = rdI u (readI s) ∧ Ws g u (readI s).1.ws ∧ (∀ q, isOf u q → B.val h.next ≤ B.val q) ∧ Stay nowhere h g := fun {g} e st e1 => by
    rw [e1]
    refine ⟨.l0, rfl, Ss.nil, ?_, st⟩
    rintro i ⟨_, _, _, _, _, e⟩; cases e
  have hz1 : ((12 : Int) = 0) = False := eq_false (by decide)
  have hz2 : ((13 : Int) = 0) = False := eq_false (by decide)
  rcases openB_range s with e | e | ⟨b, n, e, m1, m2, m3⟩
  · have e0 : readI s = (itmZ, 0, 12) := by unfold readI; rw [e]; rfl
    repeat' (first
      | refine St.h ?_
      | simp (disch := first | omega | (simp only [lnv]; omega)) only [wlk, ↓get_put', ↓reduceIte, seval, opn, e, hz1]
      | (with_reducible (first | apply cd_split | apply gd_split)) <;> (intro hc; (try simp only [hcn] at hc); (try simp only [hc]); (try simp only [hcl] at hc); try omega))
    refine ST.all o2 rfl rfl (by simp) (by simp) fun h3 o3 s3 => ?_
    have st : Stay nowhere h h3 := s02.past' s3 fun i e => by rw [e]; exact Nat.le_refl _
    repeat' (first
      | refine St.h ?_
      | simp (disch := first | omega | (simp only [lnv]; omega)) only [wlk, ↓get_put', ↓reduceIte, seval, o3.ra5]
      | (with_reducible (first | apply cd_split | apply gd_split)) <;> (intro hc; (try simp only [hcn] at hc); (try simp only [hc]); (try simp only [hcl] at hc); try omega))
    subst hQ
    exact none_ok 12 st e0
  · have e0 : readI s = (itmZ, 0, 13) := by unfold readI; rw [e]; rfl
    repeat' (first
      | refine St.h ?_
      | simp (disch := first | omega | (simp only [lnv]; omega)) only [wlk, ↓get_put', ↓reduceIte, seval, opn, e, hz2]
      | (with_reducible (first | apply cd_split | apply gd_split)) <;> (intro hc; (try simp only [hcn] at hc); (try simp only [hc]); (try simp only [hcl] at hc); try omega))
    refine ST.all o2 rfl rfl (by simp) (by simp) fun h3 o3 s3 => ?_
    have st : Stay nowhere h h3 := s02.past' s3 fun i e => by rw [e]; exact Nat.le_refl _
    repeat' (first
      | refine St.h ?_
      | simp (disch := first | omega | (simp only [lnv]; omega)) only [wlk, ↓get_put', ↓reduceIte, seval, o3.ra5]
      | (with_reducible (first | apply cd_split | apply gd_split)) <;> (intro hc; (try simp only [hcn] at hc); (try simp only [hc]); (try simp only [hcl] at hc); try omega))
    subst hQ
    exact none_ok 13 st e0
  have hR := readJ (by omega) e
  have nx2 := s2.next
  repeat' (first
    | refine St.h ?_
    | simp (disch := first | omega | (simp only [lnv]; omega)) only [wlk, ↓get_put', ↓reduceIte, seval, opn, e]
    | (with_reducible (first | apply cd_split | apply gd_split)) <;> (intro hc; (try simp only [hcn] at hc); (try simp only [hc]); (try simp only [hcl] at hc); try omega))
  refine CL.mk (itake_ok (b := b) (by omega) hf2) ?_
  rintro _ h3 ⟨u, rfl, hu, uo, s3⟩
  have hf3 := s3.fl hf2
  have u1 := ws_one hu
  unfold itJ
  repeat' (first
    | refine St.h ?_
    | simp (disch := first | omega | (simp only [lnv]; omega)) only [wlk, ↓get_put', ↓reduceIte, seval]
    | (with_reducible (first | apply cd_split | apply gd_split)) <;> (intro hc; (try simp only [hcn] at hc); (try simp only [hc]); (try simp only [hcl] at hc); try omega))
  refine AL.own (by simp) hf3 fun h4 s4 n4 o4 => ?_
  repeat' (first
    | refine St.h ?_
    | simp (disch := first | omega | (simp only [lnv]; omega)) only [wlk, ↓get_put', ↓reduceIte, seval]
    | (with_reducible (first | apply cd_split | apply gd_split)) <;> (intro hc; (try simp only [hcn] at hc); (try simp only [hc]); (try simp only [hcl] at hc); try omega))
  refine ST.all o4 rfl (one_it u1.2 _ _ _ _) (by simp) (by simp) fun h5 o5 s5 => ?_
  have s35 : Stay nowhere h3 h5 := s4.past' s5 fun i e => by rw [e]; exact Nat.le_refl _
  have hf5 := s35.fl hf3
  have hu5 := hu.grow s35
  have r5 := o5.row
  have hwl := tkI_len b (by omega)
  repeat' (first
    | refine St.h ?_
    | simp (disch := first | omega | (simp only [lnv]; omega)) only [wlk, ↓get_put', ↓reduceIte, seval, r5.l1, r5.ln]
    | (with_reducible (first | apply cd_split | apply gd_split)) <;> (intro hc; (try simp only [hcn] at hc); (try simp only [hc]); (try simp only [hcl] at hc); try omega))
  refine CL.stay (ibytes_ok0 (ws := (tkI b).ws) hu5 (by omega) hf5) fun h6 s6 => ?_
  have o6 := o5.stay s6 fun e => e
  have r6 := o6.row
  have s26 := (s3.trans s35).trans s6
  have st6 := s02.trans s26
  have q6 := o2.stay s26 fun e => e
  have hu6 := hu5.grow s6
  have en : ((n : Int)).toNat = n := by omega
  have hI : (⟨(tkI b).lv, (tkI b).n, (tkI b).tn, (tkI b).sh, (tkI b).ws⟩ : Itm) = tkI b := rfl
  rw [hI]
  have ho2 : ∀ (g6 : H), Stay (fun i => i = h.next) h6 g6 → Stay nowhere h g6 := fun g6 t => st6.past' t fun i e => by rw [e]; exact Nat.le_refl _
  cases hI1 : isI (tkI b) with
  | false =>
    have e0 : readI s = (itmZ, 0, 10) := by rw [hR, hI1]; rfl
    have eb : bytI (tkI b) = ([], false) := by unfold bytI; rw [hI1]; rfl
    have hne : ¬ ([] : List UInt8) = s.take n := fun e => by
      have := congrArg List.length e
      rw [List.length_take, List.length_nil] at this; omega
    rw [eb]
    repeat' (first
      | refine St.h ?_
      | simp (disch := first | omega | (simp only [lnv]; omega)) only [wlk, ↓get_put', ↓reduceIte, seval, en, hne]
      | (with_reducible (first | apply cd_split | apply gd_split)) <;> (intro hc; (try simp only [hcn] at hc); (try simp only [hc]); (try simp only [hcl] at hc); try omega))
    refine ST.all q6 rfl rfl (by simp) (by simp) fun g6 o14 t2 => ?_
    repeat' (first
      | refine St.h ?_
      | simp (disch := first | omega | (simp only [lnv]; omega)) only [wlk, ↓get_put', ↓reduceIte, seval, o14.ra5]
      | (with_reducible (first | apply cd_split | apply gd_split)) <;> (intro hc; (try simp only [hcn] at hc); (try simp only [hc]); (try simp only [hcl] at hc); try omega))
    subst hQ
    exact none_ok 10 (ho2 g6 t2) e0
  | true =>
    have eb : bytI (tkI b) = (itmB (tkI b), true) := by unfold bytI; rw [hI1]; rfl
    rw [eb]
    by_cases hc9 : itmB (tkI b) = s.take n
    · have e0 : readI s = (tkI b, (n : Int), 0) := by rw [hR, if_pos ⟨hI1, hc9⟩]
      repeat' (first
        | refine St.h ?_
        | simp (disch := first | omega | (simp only [lnv]; omega)) only [wlk, ↓get_put', ↓reduceIte, seval, en, hc9, r6.l1, r6.ln]
        | (with_reducible (first | apply cd_split | apply gd_split)) <;> (intro hc; (try simp only [hcn] at hc); (try simp only [hc]); (try simp only [hcl] at hc); try omega))
      refine ST.all q6 rfl (one_it u1.2 _ _ _ _) (by simp) (by simp) fun g6 o14 t2 => ?_
      have hu7 : Ws g6 u (tkI b).ws := Ss.stay hu6 t2 fun q hq e => by have := uo q hq; rw [e] at this; omega
      repeat' (first
        | refine St.h ?_
        | simp (disch := first | omega | (simp only [lnv]; omega)) only [wlk, ↓get_put', ↓reduceIte, seval, o14.ra5]
        | (with_reducible (first | apply cd_split | apply gd_split)) <;> (intro hc; (try simp only [hcn] at hc); (try simp only [hc]); (try simp only [hcl] at hc); try omega))
      subst hQ
      exact ⟨u, by rw [e0]; rfl, by rw [e0]; exact hu7, fun q hq => Nat.le_trans s02.next (uo q hq), ho2 g6 t2⟩
    · have e0 : readI s = (itmZ, 0, 10) := by rw [hR, if_neg (fun e => hc9 e.2)]
      repeat' (first
        | refine St.h ?_
        | simp (disch := first | omega | (simp only [lnv]; omega)) only [wlk, ↓get_put', ↓reduceIte, seval, en, hc9]
        | (with_reducible (first | apply cd_split | apply gd_split)) <;> (intro hc; (try simp only [hcn] at hc); (try simp only [hc]); (try simp only [hcl] at hc); try omega))
      refine ST.all q6 rfl rfl (by simp) (by simp) fun g6 o14 t2 => ?_
      repeat' (first
        | refine St.h ?_
        | simp (disch := first | omega | (simp only [lnv]; omega)) only [wlk, ↓get_put', ↓reduceIte, seval, o14.ra5]
        | (with_reducible (first | apply cd_split | apply gd_split)) <;> (intro hc; (try simp only [hcn] at hc); (try simp only [hc]); (try simp only [hcl] at hc); try omega))
      subst hQ
      exact none_ok 10 (ho2 g6 t2) e0
end Go.Proofs.Ytmlcddeikgechaa

set_option maxRecDepth 1000000
namespace Go.Proofs.Ytmlcddeikgechaa.ravelinlaw18
open Go.Ev
theorem known_run : runFn noTb Try.prog 1000 7 [] = true := by kernel_rfl
theorem known_pure : PureTrue Try.prog 7 := pure_of (noTb_ok _) (Checked.mixed Try.checked) known_run
end Go.Proofs.Ytmlcddeikgechaa.ravelinlaw18

set_option linter.all false
namespace Go.Proofs.Ytmlcddeikgechaa
open Go Go.Ev
theorem known18 {h : H} : FnOk Try.prog 7 [] h fun y h' => y = .b true ∧ h' = h := FnOk.of_pure ravelinlaw18.known_pure h
end Go.Proofs.Ytmlcddeikgechaa

set_option maxRecDepth 1000000
set_option linter.all false
namespace Go.Proofs.Ytmlcddeikgechaa
open Go Go.Ev
noncomputable abbrev s3_0 : CC := (CC.seq (CC.region [(wB 6 (doMove (O.c (V.b Bool.false))))]) CC.ret)
noncomputable abbrev s3_1 : CC := (CC.cond (tm 20) s3_0 CC.skip)
noncomputable abbrev s3_2 : CC := (CC.seq (CC.region [(wB 19 (doCall 7 [])), (wB 20 (doNot (tm 19)))]) s3_1)
noncomputable abbrev s3_3 : CC := (CC.seq (CC.region [(wB 6 (doMove (O.c (V.b Bool.true))))]) CC.ret)
noncomputable abbrev s3_4 : CC := (CC.cond (tm 33) s3_3 CC.skip)
noncomputable abbrev s3_5 : CC := (CC.seq (CC.region [(wB 21 (doLoadA 5 (tm 3))), (wB 22 (doCall 8 [(tm 21)])), (wB 23 (doNot (tm 22))), (wB 24 (doMove (tm 23))), (wG 24 false 25 (doLoadA 5 (tm 4))), (wG 24 false 26 (doCall 8 [(tm 25)])), (wG 24 false 27 (doNot (tm 26))), (wB 28 (doPick (tm 24) (O.c (V.b Bool.true)) (tm 27))), (wB 29 (doMove (tm 28))), (wG 29 false 30 (doMove (tm 2))), (wG 29 false 31 (doLenS (tm 30))), (wG 29 false 32 (bin2 fGtr (tm 31) (oN 600))), (wB 33 (doPick (tm 29) (O.c (V.b Bool.true)) (tm 32)))]) s3_4)
noncomputable abbrev s3_6 : CC := (CC.seq (CC.region [(wB 6 (doMove (O.c (V.b Bool.false))))]) CC.ret)
noncomputable abbrev s3_7 : CC := (CC.cond (tm 66) s3_6 CC.skip)
noncomputable abbrev s3_8 : CC := (CC.seq (CC.region [(wB 63 (doLoadA 5 (tm 18))), (wB 64 (doLoadA 5 (tm 3))), (wB 65 (doCall 14 [(tm 63), (tm 64)])), (wB 66 (doNot (tm 65)))]) s3_7)
noncomputable abbrev s3_9 : CC := (CC.region [(wB 71 (doFieldAddr 4 (tm 18))), (wB 72 (doLoad (tm 71))), (wB 73 (doIndexAddr 3 (tm 72) (oN 0))), (wB 74 (doFieldAddr 0 (tm 73))), (CO.mk G.none D.none Bool.true (CR.mk (doStore 1 (tm 74) (O.c (V.s 5 478694368626)))))])
noncomputable abbrev s3_10 : CC := (CC.cond (tm 70) s3_9 CC.skip)
noncomputable abbrev s3_11 : CC := (CC.seq (CC.region [(wB 67 (doFieldAddr 4 (tm 18))), (wB 68 (doLoad (tm 67))), (wB 69 (doLen (tm 68))), (wB 70 (bin2 fGtr (tm 69) (oN 0)))]) s3_10)
noncomputable abbrev s3_12 : CC := (CC.seq (CC.draws [(uB 75 (doLoadA 5 (tm 3))), (uB 76 (doCall 15 [(tm 75)])), (uB 77 (doLoadA 5 (tm 3))), (wB 78 (doCall 16 [(tm 77)])), (uB 79 (doBool Bool.false (tm 76) (tm 78))), (uB 80 (doMove (tm 79))), (uG 80 true 81 (doLoadA 5 (tm 3))), (uG 80 true 82 (doLoadA 5 (tm 4))), (uG 80 true 83 (doCall 17 [(tm 81), (tm 82)])), (uG 80 true 84 (doLoadA 5 (tm 3))), (uG 80 true 85 (doLoadA 5 (tm 4))), (wG 80 true 86 (doCall 14 [(tm 84), (tm 85)])), (uG 80 true 87 (doBool Bool.false (tm 83) (tm 86))), (uB 88 (doPick (tm 80) (tm 87) (O.c (V.b Bool.false)))), (uB 89 (doMove (tm 88))), (uG 89 true 90 (doMove (tm 7))), (uG 89 true 91 (doMove (tm 9))), (uG 89 true 92 (doSCmp eqS (tm 90) (tm 91))), (uB 93 (doPick (tm 89) (tm 92) (O.c (V.b Bool.false)))), (uB 94 (doMove (tm 93))), (uG 94 true 95 (doMove (tm 8))), (uG 94 true 96 (bin2 fEql (tm 95) (oN 0))), (uG 94 true 97 (doMove (tm 10))), (uG 94 true 98 (doBool Bool.false (tm 96) (tm 97))), (uB 99 (doPick (tm 94) (tm 98) (O.c (V.b Bool.false)))), (uB 100 (doMove (tm 99))), (uG 100 true 101 (doMove (tm 8))), (uG 100 true 102 (bin2 fEql (tm 101) (oN 0))), (uG 100 true 103 (doMove (tm 102))), (uG 103 false 104 (doMove (tm 8))), (uG 103 false 105 (bin2 fEql (tm 104) (oN 10))), (uG 100 true 106 (doPick (tm 103) (O.c (V.b Bool.true)) (tm 105))), (uB 107 (doPick (tm 100) (tm 106) (O.c (V.b Bool.false)))), (uB 108 (doMove (tm 107))), (uG 108 true 109 (doLoadA 5 (tm 11))), (uG 108 true 110 (doLoadA 5 (tm 14))), (wG 108 true 111 (doCall 14 [(tm 109), (tm 110)])), (uB 112 (doPick (tm 108) (tm 111) (O.c (V.b Bool.false)))), (uB 113 (doMove (tm 112))), (uG 113 true 114 (doMove (tm 12))), (uG 113 true 115 (doMove (tm 15))), (uG 113 true 116 (bin2 fEql (tm 114) (tm 115))), (uB 117 (doPick (tm 113) (tm 116) (O.c (V.b Bool.false)))), (uB 118 (doMove (tm 117))), (uG 118 true 119 (doMove (tm 13))), (uG 118 true 120 (doMove (tm 16))), (uG 118 true 121 (bin2 fEql (tm 119) (tm 120))), (uB 122 (doPick (tm 118) (tm 121) (O.c (V.b Bool.false)))), (uB 123 (doMove (tm 122))), (uG 123 true 124 (doLoadA 5 (tm 17))), (uG 123 true 125 (doLoadA 5 (tm 3))), (wG 123 true 126 (doCall 14 [(tm 124), (tm 125)])), (uB 127 (doPick (tm 123) (tm 126) (O.c (V.b Bool.false)))), (uB 6 (doMove (tm 127)))] (some ([1, 3, 8, 11, 36, 51], [(0, [0]), (2, [0, 2]), (6, [4]), (7, [4]), (9, [4, 9]), (10, [4, 9]), (34, [12]), (35, [12]), (49, [37]), (50, [37])]))) CC.ret)
noncomputable abbrev s3_13 : CC := (CC.seq s3_11 s3_12)
noncomputable abbrev s3_14 : CC := (CC.seq s3_8 s3_13)
noncomputable abbrev s3_15 : CC := (CC.seq (CC.region [(wB 61 (doLoadA 5 (tm 17))), (wB 62 (doCall 13 [(tm 61)])), (wB 18 (doAlloc 24 [(V.i IntKind.i64 (Int.ofNat 0)), (V.i IntKind.i64 (Int.ofNat 0)), (V.i IntKind.i64 (Int.ofNat 0)), (V.b Bool.false), V.l0])), (CO.mk G.none D.none Bool.true (CR.mk (doStore 5 (tm 18) (tm 62))))]) s3_14)
noncomputable abbrev s3_16 : CC := (CC.seq (CC.region [(wB 57 (doFieldAddr 4 (tm 3))), (wB 58 (doLoad (tm 57))), (wB 59 (doAppend 39 3 (O.c V.l0) (tm 58))), (wB 60 (doFieldAddr 4 (tm 17))), (CO.mk G.none D.none Bool.true (CR.mk (doStore 1 (tm 60) (tm 59))))]) s3_15)
noncomputable abbrev s3_17 : CC := (CC.seq (CC.region [(wB 56 (doLoadA 5 (tm 3))), (wB 17 (doAlloc 24 [(V.i IntKind.i64 (Int.ofNat 0)), (V.i IntKind.i64 (Int.ofNat 0)), (V.i IntKind.i64 (Int.ofNat 0)), (V.b Bool.false), V.l0])), (CO.mk G.none D.none Bool.true (CR.mk (doStore 5 (tm 17) (tm 56))))]) s3_16)
noncomputable abbrev s3_18 : CC := (CC.seq (CC.region [(wB 51 (doMove (tm 2))), (wB 52 (doCall 12 [(tm 51)])), (wB 50 (doMove (tm 52))), (wB 53 (doExtract 0 (tm 50))), (wB 54 (doExtract 1 (tm 50))), (wB 55 (doExtract 2 (tm 50))), (wB 14 (doAlloc 24 [(V.i IntKind.i64 (Int.ofNat 0)), (V.i IntKind.i64 (Int.ofNat 0)), (V.i IntKind.i64 (Int.ofNat 0)), (V.b Bool.false), V.l0])), (CO.mk G.none D.none Bool.true (CR.mk (doStore 5 (tm 14) (tm 53)))), (wB 15 (doMove (tm 54))), (wB 16 (doMove (tm 55)))]) s3_17)
noncomputable abbrev s3_19 : CC := (CC.seq (CC.region [(wB 45 (doMove (tm 2))), (wB 46 (doCall 11 [(tm 45)])), (wB 44 (doMove (tm 46))), (wB 47 (doExtract 0 (tm 44))), (wB 48 (doExtract 1 (tm 44))), (wB 49 (doExtract 2 (tm 44))), (wB 11 (doAlloc 24 [(V.i IntKind.i64 (Int.ofNat 0)), (V.i IntKind.i64 (Int.ofNat 0)), (V.i IntKind.i64 (Int.ofNat 0)), (V.b Bool.false), V.l0])), (CO.mk G.none D.none Bool.true (CR.mk (doStore 5 (tm 11) (tm 47)))), (wB 12 (doMove (tm 48))), (wB 13 (doMove (tm 49)))]) s3_18)
noncomputable abbrev s3_20 : CC := (CC.seq (CC.region [(wB 40 (doLoadA 5 (tm 3))), (wB 41 (doCall 10 [(tm 40)])), (wB 39 (doMove (tm 41))), (wB 42 (doExtract 0 (tm 39))), (wB 43 (doExtract 1 (tm 39))), (wB 9 (doMove (tm 42))), (wB 10 (doMove (tm 43)))]) s3_19)
noncomputable abbrev s3_21 : CC := (CC.seq (CC.region [(wB 35 (doLoadA 5 (tm 3))), (wB 36 (doCall 9 [(tm 35)])), (wB 34 (doMove (tm 36))), (wB 37 (doExtract 0 (tm 34))), (wB 38 (doExtract 1 (tm 34))), (wB 7 (doMove (tm 37))), (wB 8 (doMove (tm 38)))]) s3_20)
noncomputable abbrev s3_22 : CC := (CC.seq s3_5 s3_21)
noncomputable abbrev s3_23 : CC := (CC.seq s3_2 s3_22)
noncomputable abbrev b3 : CC := (CC.seq (CC.region [(wB 3 (doBox 24 (tm 0))), (wB 4 (doBox 24 (tm 1))), (wB 6 (doMove (O.c (V.b Bool.false))))]) s3_23)
theorem c3 : compFn Try.prog 3 = ⟨128, b3, [(Rs.tmp (slOf 6))]⟩ := by kernel_rfl
noncomputable abbrev s4_0 : CC := (CC.seq (CC.region [(wB 8 (doMove (O.c (V.b Bool.false))))]) CC.ret)
noncomputable abbrev s4_1 : CC := (CC.cond (tm 23) s4_0 CC.skip)
noncomputable abbrev s4_2 : CC := (CC.seq (CC.region [(wB 22 (doCall 7 [])), (wB 23 (doNot (tm 22)))]) s4_1)
noncomputable abbrev s4_3 : CC := (CC.seq (CC.region [(wB 8 (doMove (O.c (V.b Bool.true))))]) CC.ret)
noncomputable abbrev s4_4 : CC := (CC.cond (tm 36) s4_3 CC.skip)
noncomputable abbrev s4_5 : CC := (CC.seq (CC.region [(wB 24 (doLoadA 5 (tm 4))), (wB 25 (doCall 8 [(tm 24)])), (wB 26 (doNot (tm 25))), (wB 27 (doMove (tm 26))), (wG 27 false 28 (doLoadA 5 (tm 4))), (wG 27 false 29 (doCall 15 [(tm 28)])), (wG 27 false 30 (doNot (tm 29))), (wB 31 (doPick (tm 27) (O.c (V.b Bool.true)) (tm 30))), (wB 32 (doMove (tm 31))), (wG 32 false 33 (doMove (tm 1))), (wG 32 false 34 (doLenS (tm 33))), (wG 32 false 35 (bin2 fGtr (tm 34) (oN 200))), (wB 36 (doPick (tm 32) (O.c (V.b Bool.true)) (tm 35)))]) s4_4)
noncomputable abbrev s4_6 : CC := (CC.seq (CC.region [(wB 8 (doMove (O.c (V.b Bool.false))))]) CC.ret)
noncomputable abbrev s4_7 : CC := (CC.cond (tm 72) s4_6 CC.skip)
noncomputable abbrev s4_8 : CC := (CC.seq (CC.region [(wB 50 (doMove (tm 10))), (wB 51 (bin2 fNeq (tm 50) (oN 0))), (wB 52 (doMove (tm 51))), (wG 52 false 53 (doMove (tm 13))), (wG 52 false 54 (bin2 fNeq (tm 53) (oN 0))), (wB 55 (doPick (tm 52) (O.c (V.b Bool.true)) (tm 54))), (wB 56 (doMove (tm 55))), (wG 56 false 57 (doMove (tm 12))), (wG 56 false 58 (doMove (tm 9))), (wG 56 false 59 (doLenS (tm 58))), (wG 56 false 60 (bin2 fNeq (tm 57) (tm 59))), (wB 61 (doPick (tm 56) (O.c (V.b Bool.true)) (tm 60))), (wB 62 (doMove (tm 61))), (wG 62 false 63 (doLoadA 5 (tm 4))), (wG 62 false 64 (doLoadA 5 (tm 11))), (wG 62 false 65 (doCall 17 [(tm 63), (tm 64)])), (wG 62 false 66 (doNot (tm 65))), (wB 67 (doPick (tm 62) (O.c (V.b Bool.true)) (tm 66))), (wB 68 (doMove (tm 67))), (wG 68 false 69 (doMove (tm 9))), (wG 68 false 70 (doLenS (tm 69))), (wG 68 false 71 (bin2 fEql (tm 70) (oN 0))), (wB 72 (doPick (tm 68) (O.c (V.b Bool.true)) (tm 71)))]) s4_7)
noncomputable abbrev s4_9 : CC := (CC.seq (CC.region [(wB 104 (doMove (tm 18))), (wB 105 (bin2 fEql (tm 104) (oN 0))), (wB 106 (doMove (tm 105))), (wG 106 true 107 (doLoadA 5 (tm 4))), (wG 106 true 108 (doLoadA 5 (tm 16))), (wG 106 true 109 (doCall 17 [(tm 107), (tm 108)])), (wB 110 (doPick (tm 106) (tm 109) (O.c (V.b Bool.false)))), (wB 111 (doMove (tm 3))), (wB 112 (bin2 fEql (tm 111) (O.c (V.i IntKind.u8 (Int.ofNat 0))))), (wB 113 (doBool Bool.false (tm 110) (tm 112))), (wB 114 (doMove (tm 113))), (wG 114 true 115 (doMove (tm 21))), (wG 114 true 116 (bin2 fEql (tm 115) (oN 12))), (wB 117 (doPick (tm 114) (tm 116) (O.c (V.b Bool.false)))), (wB 8 (doMove (tm 117)))]) CC.ret)
noncomputable abbrev s4_10 : CC := (CC.seq (CC.region [(wB 97 (doMove (tm 9))), (wB 98 (doMove (tm 15))), (wB 99 (doSSlice (tm 97) none (some (tm 98)))), (wB 100 (doCall 11 [(tm 99)])), (wB 96 (doMove (tm 100))), (wB 101 (doExtract 0 (tm 96))), (wB 102 (doExtract 1 (tm 96))), (wB 103 (doExtract 2 (tm 96))), (wB 19 (doAlloc 24 [(V.i IntKind.i64 (Int.ofNat 0)), (V.i IntKind.i64 (Int.ofNat 0)), (V.i IntKind.i64 (Int.ofNat 0)), (V.b Bool.false), V.l0])), (CO.mk G.none D.none Bool.true (CR.mk (doStore 5 (tm 19) (tm 101)))), (wB 20 (doMove (tm 102))), (wB 21 (doMove (tm 103)))]) s4_9)
noncomputable abbrev s4_11 : CC := (CC.seq (CC.region [(wB 90 (doMove (tm 14))), (wB 91 (doB2S (tm 90))), (wB 92 (doCall 11 [(tm 91)])), (wB 89 (doMove (tm 92))), (wB 93 (doExtract 0 (tm 89))), (wB 94 (doExtract 1 (tm 89))), (wB 95 (doExtract 2 (tm 89))), (wB 16 (doAlloc 24 [(V.i IntKind.i64 (Int.ofNat 0)), (V.i IntKind.i64 (Int.ofNat 0)), (V.i IntKind.i64 (Int.ofNat 0)), (V.b Bool.false), V.l0])), (CO.mk G.none D.none Bool.true (CR.mk (doStore 5 (tm 16) (tm 93)))), (wB 17 (doMove (tm 94))), (wB 18 (doMove (tm 95)))]) s4_10)
noncomputable abbrev s4_12 : CC := (CC.seq (CC.region [(wB 80 (doMove (tm 14))), (wB 81 (doMove (tm 15))), (wB 82 (doMove (tm 14))), (wB 83 (doMove (tm 15))), (wB 84 (doIndexAddr 1 (tm 82) (tm 83))), (wB 85 (doLoad (tm 84))), (wB 86 (doMove (tm 3))), (wB 87 (bin2 fXor (tm 85) (tm 86))), (wB 88 (doIndexAddr 1 (tm 80) (tm 81))), (CO.mk G.none D.none Bool.true (CR.mk (doStore 1 (tm 88) (tm 87))))]) s4_11)
noncomputable abbrev s4_13 : CC := (CC.seq (CC.region [(wB 75 (doMove (tm 2))), (wB 76 (doConv IntKind.i64 (tm 75))), (wB 77 (doMove (tm 14))), (wB 78 (doLen (tm 77))), (wB 79 (doRem (tm 76) (tm 78))), (wB 15 (doMove (tm 79)))]) s4_12)
noncomputable abbrev s4_14 : CC := (CC.seq (CC.region [(wB 73 (doMove (tm 9))), (wB 74 (doS2B 5 (tm 73))), (wB 14 (doMove (tm 74)))]) s4_13)
noncomputable abbrev s4_15 : CC := (CC.seq s4_8 s4_14)
noncomputable abbrev s4_16 : CC := (CC.seq (CC.region [(wB 43 (doMove (tm 9))), (wB 44 (doMove (tm 1))), (wB 45 (doConcat (tm 43) (tm 44))), (wB 46 (doCall 11 [(tm 45)])), (wB 42 (doMove (tm 46))), (wB 47 (doExtract 0 (tm 42))), (wB 48 (doExtract 1 (tm 42))), (wB 49 (doExtract 2 (tm 42))), (wB 11 (doAlloc 24 [(V.i IntKind.i64 (Int.ofNat 0)), (V.i IntKind.i64 (Int.ofNat 0)), (V.i IntKind.i64 (Int.ofNat 0)), (V.b Bool.false), V.l0])), (CO.mk G.none D.none Bool.true (CR.mk (doStore 5 (tm 11) (tm 47)))), (wB 12 (doMove (tm 48))), (wB 13 (doMove (tm 49)))]) s4_15)
noncomputable abbrev s4_17 : CC := (CC.seq (CC.region [(wB 38 (doLoadA 5 (tm 4))), (wB 39 (doCall 9 [(tm 38)])), (wB 37 (doMove (tm 39))), (wB 40 (doExtract 0 (tm 37))), (wB 41 (doExtract 1 (tm 37))), (wB 9 (doMove (tm 40))), (wB 10 (doMove (tm 41)))]) s4_16)
noncomputable abbrev s4_18 : CC := (CC.seq s4_5 s4_17)
noncomputable abbrev s4_19 : CC := (CC.seq s4_2 s4_18)
noncomputable abbrev b4 : CC := (CC.seq (CC.region [(wB 4 (doBox 24 (tm 0))), (wB 8 (doMove (O.c (V.b Bool.false))))]) s4_19)
theorem c4 : compFn Try.prog 4 = ⟨118, b4, [(Rs.tmp (slOf 8))]⟩ := by kernel_rfl
noncomputable abbrev s5_0 : CC := (CC.seq (CC.region [(wB 12 (doMove (O.c (V.b Bool.false))))]) CC.ret)
noncomputable abbrev s5_1 : CC := (CC.cond (tm 23) s5_0 CC.skip)
noncomputable abbrev s5_2 : CC := (CC.seq (CC.region [(wB 22 (doCall 7 [])), (wB 23 (doNot (tm 22)))]) s5_1)
noncomputable abbrev s5_3 : CC := (CC.cond (tm 34) CC.skip (CC.exit 0))
noncomputable abbrev s5_4 : CC := (CC.seq (CC.region [(wB 32 (doMove (tm 15))), (wB 33 (doMove (tm 14))), (wB 34 (bin2 fLss (tm 32) (tm 33)))]) s5_3)
noncomputable abbrev s5_5 : CC := (CC.region [(wB 37 (doFieldAddr 4 (tm 13))), (wB 38 (doLoad (tm 37))), (wB 39 (doMove (tm 15))), (wB 40 (bin2 fAdd (oN 97) (tm 39))), (wB 41 (doConv IntKind.u8 (tm 40))), (wB 42 (doBuildSlice 5 1 [(V.i IntKind.u8 (Int.ofNat 0))] [(Pt.mk 0 1 (tm 41))])), (wB 43 (doB2S (tm 42))), (wB 44 (doBuild [(V.s 0 0), (V.b Bool.false), (V.s 0 0)] [(Pt.mk 0 1 (tm 43)), (Pt.mk 2 1 (O.c (V.s 1 118)))])), (wB 45 (doBuildSlice 39 1 [(V.s 0 0), (V.b Bool.false), (V.s 0 0)] [(Pt.mk 0 3 (tm 44))])), (wB 46 (doAppend 39 3 (tm 38) (tm 45))), (wB 47 (doFieldAddr 4 (tm 13))), (CO.mk G.none D.none Bool.true (CR.mk (doStore 1 (tm 47) (tm 46))))])
noncomputable abbrev s5_6 : CC := (CC.block 1 s5_5)
noncomputable abbrev s5_7 : CC := (CC.region [(wB 35 (doMove (tm 15))), (wB 36 (bin2 fAdd (tm 35) (oN 1))), (wB 15 (doMove (tm 36)))])
noncomputable abbrev s5_8 : CC := (CC.seq s5_6 s5_7)
noncomputable abbrev l5_0 : CC := (CC.seq s5_4 s5_8)
noncomputable abbrev s5_9 : CC := (CC.loop l5_0)
noncomputable abbrev s5_10 : CC := (CC.block 0 s5_9)
noncomputable abbrev s5_11 : CC := (CC.seq (CC.region [(wB 15 (doMove (oN 0)))]) s5_10)
noncomputable abbrev s5_12 : CC := (CC.seq (CC.region [(wB 137 (doLoadA 5 (tm 13))), (wB 138 (doCall 15 [(tm 137)])), (wB 139 (doMove (tm 16))), (wB 140 (doBool Bool.false (tm 138) (tm 139))), (wB 141 (doMove (tm 140))), (wG 141 true 142 (doMove (tm 21))), (wG 141 true 143 (bin2 fEql (tm 142) (oN 0))), (wG 141 true 144 (doMove (tm 16))), (wG 141 true 145 (doBool Bool.false (tm 143) (tm 144))), (wB 146 (doPick (tm 141) (tm 145) (O.c (V.b Bool.false)))), (wB 147 (doMove (tm 146))), (wG 147 true 148 (doLoadA 5 (tm 17))), (wG 147 true 149 (doCall 15 [(tm 148)])), (wG 147 true 150 (doMove (tm 19))), (wG 147 true 151 (doBool Bool.false (tm 149) (tm 150))), (wB 152 (doPick (tm 147) (tm 151) (O.c (V.b Bool.false)))), (wB 12 (doMove (tm 152)))]) CC.ret)
noncomputable abbrev s5_13 : CC := (CC.seq (CC.region [(wB 133 (doLoadA 5 (tm 13))), (wB 134 (doCall 9 [(tm 133)])), (wB 132 (doMove (tm 134))), (wB 135 (doExtract 0 (tm 132))), (wB 136 (doExtract 1 (tm 132))), (wB 20 (doMove (tm 135))), (wB 21 (doMove (tm 136)))]) s5_12)
noncomputable abbrev s5_14 : CC := (CC.seq (CC.region [(wB 102 (doMove (tm 0))), (wB 103 (bin2 fGeq (tm 102) (oN 0))), (wB 104 (doMove (tm 103))), (wG 104 true 105 (doMove (tm 0))), (wG 104 true 106 (bin2 fLss (tm 105) (oN 6))), (wB 107 (doPick (tm 104) (tm 106) (O.c (V.b Bool.false)))), (wB 108 (doMove (tm 107))), (wG 108 true 109 (doMove (tm 1))), (wG 108 true 110 (bin2 fGeq (tm 109) (oN 1))), (wB 111 (doPick (tm 108) (tm 110) (O.c (V.b Bool.false)))), (wB 112 (doMove (tm 111))), (wG 112 true 113 (doMove (tm 1))), (wG 112 true 114 (bin2 fLeq (tm 113) (oN 1000000))), (wB 115 (doPick (tm 112) (tm 114) (O.c (V.b Bool.false)))), (wB 116 (doMove (tm 115))), (wG 116 true 117 (doMove (tm 2))), (wG 116 true 118 (bin2 fGeq (tm 117) (oN 0))), (wB 119 (doPick (tm 116) (tm 118) (O.c (V.b Bool.false)))), (wB 120 (doMove (tm 119))), (wG 120 true 121 (doMove (tm 2))), (wG 120 true 122 (bin2 fLeq (tm 121) (oN 1000000))), (wB 123 (doPick (tm 120) (tm 122) (O.c (V.b Bool.false)))), (wB 124 (doMove (tm 123))), (wG 124 true 125 (doMove (tm 18))), (wG 124 true 126 (bin2 fGeq (tm 125) (oN 1))), (wB 127 (doPick (tm 124) (tm 126) (O.c (V.b Bool.false)))), (wB 128 (doMove (tm 127))), (wG 128 true 129 (doMove (tm 18))), (wG 128 true 130 (bin2 fLeq (tm 129) (oN 12))), (wB 131 (doPick (tm 128) (tm 130) (O.c (V.b Bool.false)))), (wB 19 (doMove (tm 131)))]) s5_13)
noncomputable abbrev s5_15 : CC := (CC.seq (CC.region [(wB 99 (doMove (tm 5))), (wB 100 (doRem (tm 99) (O.c (V.i IntKind.u8 (Int.ofNat 16))))), (wB 101 (doConv IntKind.i64 (tm 100))), (wB 18 (doMove (tm 101)))]) s5_14)
noncomputable abbrev s5_16 : CC := (CC.seq (CC.region [(wB 98 (doFieldAddr 3 (tm 17))), (CO.mk G.none D.none Bool.true (CR.mk (doStore 1 (tm 98) (O.c (V.b Bool.false)))))]) s5_15)
noncomputable abbrev s5_17 : CC := (CC.seq (CC.region [(wB 90 (doMove (tm 5))), (wB 91 (doRem (tm 90) (O.c (V.i IntKind.u8 (Int.ofNat 16))))), (wB 92 (doConv IntKind.i64 (tm 91))), (wB 93 (doMakeSlice 5 [(V.i IntKind.u8 (Int.ofNat 0))] (tm 92) (tm 92))), (wB 94 (doB2S (tm 93))), (wB 95 (doBuild [(V.s 0 0), (V.b Bool.false), (V.s 0 0)] [(Pt.mk 0 1 (tm 94))])), (wB 96 (doBuildSlice 39 1 [(V.s 0 0), (V.b Bool.false), (V.s 0 0)] [(Pt.mk 0 3 (tm 95))])), (wB 97 (doFieldAddr 4 (tm 17))), (CO.mk G.none D.none Bool.true (CR.mk (doStore 1 (tm 97) (tm 96))))]) s5_16)
noncomputable abbrev s5_18 : CC := (CC.seq (CC.region [(wB 89 (doLoadA 5 (tm 13))), (wB 17 (doAlloc 24 [(V.i IntKind.i64 (Int.ofNat 0)), (V.i IntKind.i64 (Int.ofNat 0)), (V.i IntKind.i64 (Int.ofNat 0)), (V.b Bool.false), V.l0])), (CO.mk G.none D.none Bool.true (CR.mk (doStore 5 (tm 17) (tm 89))))]) s5_17)
noncomputable abbrev s5_19 : CC := (CC.seq (CC.region [(wB 48 (doMove (tm 0))), (wB 49 (bin2 fGeq (tm 48) (oN 0))), (wB 50 (doMove (tm 49))), (wG 50 true 51 (doMove (tm 0))), (wG 50 true 52 (bin2 fLss (tm 51) (oN 6))), (wB 53 (doPick (tm 50) (tm 52) (O.c (V.b Bool.false)))), (wB 54 (doMove (tm 53))), (wG 54 true 55 (doMove (tm 1))), (wG 54 true 56 (bin2 fGeq (tm 55) (oN 1))), (wB 57 (doPick (tm 54) (tm 56) (O.c (V.b Bool.false)))), (wB 58 (doMove (tm 57))), (wG 58 true 59 (doMove (tm 1))), (wG 58 true 60 (bin2 fLeq (tm 59) (oN 1000000))), (wB 61 (doPick (tm 58) (tm 60) (O.c (V.b Bool.false)))), (wB 62 (doMove (tm 61))), (wG 62 true 63 (doMove (tm 2))), (wG 62 true 64 (bin2 fGeq (tm 63) (oN 0))), (wB 65 (doPick (tm 62) (tm 64) (O.c (V.b Bool.false)))), (wB 66 (doMove (tm 65))), (wG 66 true 67 (doMove (tm 2))), (wG 66 true 68 (bin2 fLeq (tm 67) (oN 1000000))), (wB 69 (doPick (tm 66) (tm 68) (O.c (V.b Bool.false)))), (wB 70 (doMove (tm 69))), (wG 70 true 71 (doMove (tm 3))), (wG 70 true 72 (doMove (tm 71))), (wG 72 true 73 (doMove (tm 14))), (wG 72 true 74 (bin2 fEql (tm 73) (oN 0))), (wG 70 true 75 (doPick (tm 72) (tm 74) (O.c (V.b Bool.false)))), (wG 70 true 76 (doMove (tm 75))), (wG 76 false 77 (doMove (tm 3))), (wG 76 false 78 (doNot (tm 77))), (wG 76 false 79 (doMove (tm 78))), (wG 79 true 80 (doMove (tm 14))), (wG 79 true 81 (bin2 fGeq (tm 80) (oN 1))), (wG 76 false 82 (doPick (tm 79) (tm 81) (O.c (V.b Bool.false)))), (wG 76 false 83 (doMove (tm 82))), (wG 83 true 84 (doMove (tm 14))), (wG 83 true 85 (bin2 fLeq (tm 84) (oN 8))), (wG 76 false 86 (doPick (tm 83) (tm 85) (O.c (V.b Bool.false)))), (wG 70 true 87 (doPick (tm 76) (O.c (V.b Bool.true)) (tm 86))), (wB 88 (doPick (tm 70) (tm 87) (O.c (V.b Bool.false)))), (wB 16 (doMove (tm 88)))]) s5_18)
noncomputable abbrev s5_20 : CC := (CC.seq s5_11 s5_19)
noncomputable abbrev s5_21 : CC := (CC.seq (CC.region [(wB 29 (doMove (tm 4))), (wB 30 (doRem (tm 29) (O.c (V.i IntKind.u8 (Int.ofNat 11))))), (wB 31 (doConv IntKind.i64 (tm 30))), (wB 14 (doMove (tm 31)))]) s5_20)
noncomputable abbrev s5_22 : CC := (CC.seq (CC.region [(wB 24 (doMove (tm 0))), (wB 25 (doMove (tm 1))), (wB 26 (doMove (tm 2))), (wB 27 (doMove (tm 3))), (wB 28 (doBuild [(V.i IntKind.i64 (Int.ofNat 0)), (V.i IntKind.i64 (Int.ofNat 0)), (V.i IntKind.i64 (Int.ofNat 0)), (V.b Bool.false), V.l0] [(Pt.mk 0 1 (tm 24)), (Pt.mk 1 1 (tm 25)), (Pt.mk 2 1 (tm 26)), (Pt.mk 3 1 (tm 27))])), (wB 13 (doAlloc 24 [(V.i IntKind.i64 (Int.ofNat 0)), (V.i IntKind.i64 (Int.ofNat 0)), (V.i IntKind.i64 (Int.ofNat 0)), (V.b Bool.false), V.l0])), (CO.mk G.none D.none Bool.true (CR.mk (doStore 5 (tm 13) (tm 28))))]) s5_21)
noncomputable abbrev s5_23 : CC := (CC.seq s5_2 s5_22)
noncomputable abbrev b5 : CC := (CC.seq (CC.region [(wB 12 (doMove (O.c (V.b Bool.false))))]) s5_23)
theorem c5 : compFn Try.prog 5 = ⟨153, b5, [(Rs.tmp (slOf 12))]⟩ := by kernel_rfl
noncomputable abbrev s6_0 : CC := (CC.seq (CC.region [(wB 2 (doMove (O.c (V.b Bool.false))))]) CC.ret)
noncomputable abbrev s6_1 : CC := (CC.cond (tm 17) s6_0 CC.skip)
noncomputable abbrev s6_2 : CC := (CC.seq (CC.region [(wB 16 (doCall 7 [])), (wB 17 (doNot (tm 16)))]) s6_1)
noncomputable abbrev s6_3 : CC := (CC.seq (CC.region [(wB 2 (doMove (O.c (V.b Bool.true))))]) CC.ret)
noncomputable abbrev s6_4 : CC := (CC.cond (tm 20) s6_3 CC.skip)
noncomputable abbrev s6_5 : CC := (CC.seq (CC.region [(wB 18 (doMove (tm 0))), (wB 19 (doLen (tm 18))), (wB 20 (bin2 fGtr (tm 19) (oN 12)))]) s6_4)
noncomputable abbrev s6_6 : CC := (CC.cond (tm 24) CC.skip (CC.exit 0))
noncomputable abbrev s6_7 : CC := (CC.seq (CC.region [(wB 21 (doMove (tm 5))), (wB 22 (doMove (tm 0))), (wB 23 (doLen (tm 22))), (wB 24 (bin2 fLss (tm 21) (tm 23)))]) s6_6)
noncomputable abbrev s6_8 : CC := (CC.seq (CC.region [(wB 2 (doMove (O.c (V.b Bool.true))))]) CC.ret)
noncomputable abbrev s6_9 : CC := (CC.cond (tm 32) s6_8 CC.skip)
noncomputable abbrev s6_10 : CC := (CC.seq (CC.region [(wB 27 (doMove (tm 0))), (wB 28 (doMove (tm 5))), (wB 29 (doIndexAddr 5 (tm 27) (tm 28))), (wB 30 (doLoadA 5 (tm 29))), (wB 31 (doCall 8 [(tm 30)])), (wB 32 (doNot (tm 31)))]) s6_9)
noncomputable abbrev s6_11 : CC := (CC.region [(wB 46 (doMove (tm 4))), (wB 47 (doMove (tm 0))), (wB 48 (doMove (tm 5))), (wB 49 (doIndexAddr 5 (tm 47) (tm 48))), (wB 50 (doLoadA 5 (tm 49))), (wB 51 (doBuildSlice 24 1 [(V.i IntKind.i64 (Int.ofNat 0)), (V.i IntKind.i64 (Int.ofNat 0)), (V.i IntKind.i64 (Int.ofNat 0)), (V.b Bool.false), V.l0] [(Pt.mk 0 5 (tm 50))])), (wB 52 (doAppend 24 5 (tm 46) (tm 51))), (wB 4 (doMove (tm 52)))])
noncomputable abbrev s6_12 : CC := (CC.seq (CC.region [(wB 43 (doMove (tm 3))), (wB 44 (doMove (tm 6))), (wB 45 (doConcat (tm 43) (tm 44))), (wB 3 (doMove (tm 45)))]) s6_11)
noncomputable abbrev s6_13 : CC := (CC.cond (tm 42) s6_12 CC.skip)
noncomputable abbrev s6_14 : CC := (CC.seq (CC.region [(wB 41 (doMove (tm 7))), (wB 42 (bin2 fEql (tm 41) (oN 0)))]) s6_13)
noncomputable abbrev s6_15 : CC := (CC.seq (CC.region [(wB 34 (doMove (tm 0))), (wB 35 (doMove (tm 5))), (wB 36 (doIndexAddr 5 (tm 34) (tm 35))), (wB 37 (doLoadA 5 (tm 36))), (wB 38 (doCall 9 [(tm 37)])), (wB 33 (doMove (tm 38))), (wB 39 (doExtract 0 (tm 33))), (wB 40 (doExtract 1 (tm 33))), (wB 6 (doMove (tm 39))), (wB 7 (doMove (tm 40)))]) s6_14)
noncomputable abbrev s6_16 : CC := (CC.seq s6_10 s6_15)
noncomputable abbrev s6_17 : CC := (CC.block 1 s6_16)
noncomputable abbrev s6_18 : CC := (CC.region [(wB 25 (doMove (tm 5))), (wB 26 (bin2 fAdd (tm 25) (oN 1))), (wB 5 (doMove (tm 26)))])
noncomputable abbrev s6_19 : CC := (CC.seq s6_17 s6_18)
noncomputable abbrev l6_0 : CC := (CC.seq s6_7 s6_19)
noncomputable abbrev s6_20 : CC := (CC.loop l6_0)
noncomputable abbrev s6_21 : CC := (CC.block 0 s6_20)
noncomputable abbrev s6_22 : CC := (CC.seq (CC.region [(wB 5 (doMove (oN 0)))]) s6_21)
noncomputable abbrev s6_23 : CC := (CC.cond (tm 56) CC.skip (CC.exit 2))
noncomputable abbrev s6_24 : CC := (CC.seq (CC.region [(wB 53 (doMove (tm 9))), (wB 54 (doMove (tm 4))), (wB 55 (doLen (tm 54))), (wB 56 (bin2 fLss (tm 53) (tm 55)))]) s6_23)
noncomputable abbrev s6_25 : CC := (CC.seq (CC.region [(wB 2 (doMove (O.c (V.b Bool.false))))]) CC.ret)
noncomputable abbrev s6_26 : CC := (CC.cond (tm 81) s6_25 CC.skip)
noncomputable abbrev s6_27 : CC := (CC.seq (CC.draws [(uB 67 (doMove (tm 12))), (uB 68 (bin2 fNeq (tm 67) (oN 0))), (uB 69 (doMove (tm 68))), (uG 69 false 70 (doMove (tm 11))), (uG 69 false 71 (bin2 fLss (tm 70) (oN 1))), (uB 72 (doPick (tm 69) (O.c (V.b Bool.true)) (tm 71))), (uB 73 (doMove (tm 72))), (uG 73 false 74 (doLoadA 5 (tm 10))), (uG 73 false 75 (doMove (tm 4))), (uG 73 false 76 (doMove (tm 9))), (uG 73 false 77 (doIndexAddr 5 (tm 75) (tm 76))), (uG 73 false 78 (doLoadA 5 (tm 77))), (wG 73 false 79 (doCall 17 [(tm 74), (tm 78)])), (uG 73 false 80 (doNot (tm 79))), (uB 81 (doPick (tm 73) (O.c (V.b Bool.true)) (tm 80)))] none) s6_26)
noncomputable abbrev s6_28 : CC := (CC.region [(wB 82 (doMove (tm 8))), (wB 83 (doMove (tm 11))), (wB 84 (bin2 fAdd (tm 82) (tm 83))), (wB 8 (doMove (tm 84)))])
noncomputable abbrev s6_29 : CC := (CC.seq s6_27 s6_28)
noncomputable abbrev s6_30 : CC := (CC.seq (CC.region [(wB 60 (doMove (tm 3))), (wB 61 (doMove (tm 8))), (wB 62 (doSSlice (tm 60) (some (tm 61)) none)), (wB 63 (doCall 11 [(tm 62)])), (wB 59 (doMove (tm 63))), (wB 64 (doExtract 0 (tm 59))), (wB 65 (doExtract 1 (tm 59))), (wB 66 (doExtract 2 (tm 59))), (wB 10 (doAlloc 24 [(V.i IntKind.i64 (Int.ofNat 0)), (V.i IntKind.i64 (Int.ofNat 0)), (V.i IntKind.i64 (Int.ofNat 0)), (V.b Bool.false), V.l0])), (CO.mk G.none D.none Bool.true (CR.mk (doStore 5 (tm 10) (tm 64)))), (wB 11 (doMove (tm 65))), (wB 12 (doMove (tm 66)))]) s6_29)
noncomputable abbrev s6_31 : CC := (CC.block 3 s6_30)
noncomputable abbrev s6_32 : CC := (CC.region [(wB 57 (doMove (tm 9))), (wB 58 (bin2 fAdd (tm 57) (oN 1))), (wB 9 (doMove (tm 58)))])
noncomputable abbrev s6_33 : CC := (CC.seq s6_31 s6_32)
noncomputable abbrev l6_1 : CC := (CC.seq s6_24 s6_33)
noncomputable abbrev s6_34 : CC := (CC.loop l6_1)
noncomputable abbrev s6_35 : CC := (CC.block 2 s6_34)
noncomputable abbrev s6_36 : CC := (CC.seq (CC.region [(wB 9 (doMove (oN 0)))]) s6_35)
noncomputable abbrev s6_37 : CC := (CC.seq (CC.region [(wB 93 (doMove (tm 8))), (wB 94 (doMove (tm 3))), (wB 95 (doLenS (tm 94))), (wB 96 (bin2 fEql (tm 93) (tm 95))), (wB 97 (doMove (tm 96))), (wG 97 true 98 (doMove (tm 15))), (wG 97 true 99 (bin2 fEql (tm 98) (oN 12))), (wB 100 (doPick (tm 97) (tm 99) (O.c (V.b Bool.false)))), (wB 2 (doMove (tm 100)))]) CC.ret)
noncomputable abbrev s6_38 : CC := (CC.seq (CC.region [(wB 86 (doMove (tm 3))), (wB 87 (doMove (tm 8))), (wB 88 (doSSlice (tm 86) (some (tm 87)) none)), (wB 89 (doCall 11 [(tm 88)])), (wB 85 (doMove (tm 89))), (wB 90 (doExtract 0 (tm 85))), (wB 91 (doExtract 1 (tm 85))), (wB 92 (doExtract 2 (tm 85))), (wB 13 (doAlloc 24 [(V.i IntKind.i64 (Int.ofNat 0)), (V.i IntKind.i64 (Int.ofNat 0)), (V.i IntKind.i64 (Int.ofNat 0)), (V.b Bool.false), V.l0])), (CO.mk G.none D.none Bool.true (CR.mk (doStore 5 (tm 13) (tm 90)))), (wB 14 (doMove (tm 91))), (wB 15 (doMove (tm 92)))]) s6_37)
noncomputable abbrev s6_39 : CC := (CC.seq s6_36 s6_38)
noncomputable abbrev s6_40 : CC := (CC.seq (CC.region [(wB 8 (doMove (oN 0)))]) s6_39)
noncomputable abbrev s6_41 : CC := (CC.seq s6_22 s6_40)
noncomputable abbrev s6_42 : CC := (CC.seq (CC.region [(wB 4 (doMove (O.c V.l0)))]) s6_41)
noncomputable abbrev s6_43 : CC := (CC.seq (CC.region [(wB 3 (doMove (O.c (V.s 0 0))))]) s6_42)
noncomputable abbrev s6_44 : CC := (CC.seq s6_5 s6_43)
noncomputable abbrev s6_45 : CC := (CC.seq s6_2 s6_44)
noncomputable abbrev b6 : CC := (CC.seq (CC.region [(wB 2 (doMove (O.c (V.b Bool.false))))]) s6_45)
theorem c6 : compFn Try.prog 6 = ⟨101, b6, [(Rs.tmp (slOf 2))]⟩ := by kernel_rfl
end Go.Proofs.Ytmlcddeikgechaa

set_option maxRecDepth 100000
set_option maxHeartbeats 8000000
set_option linter.all false
namespace Go.Proofs.Ytmlcddeikgechaa
open Go Go.Ev
theorem fewI_len {x : Itm} (h : fewI x = true) : x.ws.length ≤ 12 := by
  unfold fewI at h; rw [Bool.and_eq_true] at h; exact of_decide_eq_true h.2
theorem itmB_len {x : Itm} (h : isI x = true) : (itmB x).length ≤ 700 ∧ 5 ≤ (itmB x).length := by
  have h1 := bodyI_len h
  have h2 := sealB_len (bodyI x)
  have h3 := numB_len (n := (bodyI x).length) (by omega)
  have h4 : 1 ≤ (numB (bodyI x).length).length := by unfold numB; simp
  unfold itmB
  omega
end Go.Proofs.Ytmlcddeikgechaa

set_option maxRecDepth 100000
set_option maxHeartbeats 8000000
set_option linter.all false
namespace Go.Proofs.Ytmlcddeikgechaa
open Go Go.Ev
/-- five boxes -/
def RItT (b3 b4 b11 b14 b17 : B) (A B P Q W : List V) (g : H) : Prop := Ev.Own g b3 A ∧ Ev.Own g b4 B ∧ Ev.Own g b11 P ∧ Ev.Own g b14 Q ∧ Ev.Own g b17 W
theorem RItT.stay {b3 b4 b11 b14 b17 : B} {A B P Q W : List V} {g g' : H} (a : RItT b3 b4 b11 b14 b17 A B P Q W g) (s : Stay nowhere g g') : RItT b3 b4 b11 b14 b17 A B P Q W g' :=
  ⟨a.1.stay s fun e => e, a.2.1.stay s fun e => e, a.2.2.1.stay s fun e => e, a.2.2.2.1.stay s fun e => e, a.2.2.2.2.stay s fun e => e⟩
end Go.Proofs.Ytmlcddeikgechaa

set_option maxRecDepth 100000
set_option maxHeartbeats 8000000
set_option linter.all false
namespace Go.Proofs.Ytmlcddeikgechaa
open Go Go.Ev
/-- those of the first i that are items -/
def keepI (K : List Ik) (i : Nat) : List Ik := (K.take i).filter fun k => isI k.x
theorem keepI_succ {K : List Ik} {i : Nat} (h : i < K.length) : keepI K (i + 1) = if isI (K.getD i default).x then keepI K i ++ [K.getD i default] else keepI K i := by
  unfold keepI
  rw [List.take_add_one, List.getElem?_eq_getElem h, List.filter_append, show K.getD i default = K[i] by simp [List.getD, h]]
  show _ ++ List.filter _ [K[i]] = _
  cases e : isI K[i].x <;> simp [e]
theorem keepI_is {K : List Ik} {i : Nat} {k : Ik} (h : k ∈ keepI K i) : isI k.x = true ∧ k ∈ K := by
  unfold keepI at h
  rw [List.mem_filter] at h
  exact ⟨h.2, List.mem_of_mem_take h.1⟩
theorem keepI_len (K : List Ik) (i : Nat) : (keepI K i).length ≤ K.length := by
  unfold keepI
  refine Nat.le_trans (List.length_filter_le _ _) ?_
  rw [List.length_take]; omega
/-- their bytes, one behind the other -/
def catI (M : List Ik) : List UInt8 := M.flatMap fun k => itmB k.x
theorem catI_app (M N : List Ik) : catI (M ++ N) = catI M ++ catI N := by unfold catI; rw [List.flatMap_append]
theorem catI_one (k : Ik) : catI [k] = itmB k.x := by unfold catI; simp
theorem catI_len : ∀ {M : List Ik} (_ : ∀ k ∈ M, isI k.x = true), (catI M).length ≤ M.length * 700
  | [], _ => Nat.zero_le _
  | k :: M, h => by
    have h1 := catI_len (M := M) fun q hq => h q (List.mem_cons_of_mem _ hq)
    have h2 := (itmB_len (h k (List.mem_cons_self ..))).1
    show (catI ([k] ++ M)).length ≤ _
    rw [catI_app, catI_one, List.length_append, List.length_cons, Nat.add_mul]; omega
theorem catI_cut {M : List Ik} {j : Nat} (hj : j < M.length) : catI M = catI (M.take j) ++ (itmB (M.getD j default).x ++ catI (M.drop (j + 1))) := by
  have e : M = M.take j ++ ([M.getD j default] ++ M.drop (j + 1)) := by
    rw [show M.getD j default = M[j] by simp [List.getD, hj]]
    exact (List.take_append_drop j M).symm.trans (congrArg _ (List.drop_eq_getElem_cons hj))
  have := congrArg catI e
  rwa [catI_app, catI_app, catI_one] at this
theorem catI_read {M : List Ik} (h : ∀ k ∈ M, isI k.x = true) {j : Nat} (hj : j < M.length) : readI ((catI M).drop (catI (M.take j)).length) = ((M.getD j default).x, ((itmB (M.getD j default).x).length : Int), 0) := by
  conv => lhs; rw [catI_cut hj]
  rw [List.drop_left]
  exact readI_itm (h _ (getK_in hj)) _
theorem catI_succ {M : List Ik} {j : Nat} (hj : j < M.length) : (catI (M.take (j + 1))).length = (catI (M.take j)).length + (itmB (M.getD j default).x).length := by
  rw [List.take_add_one, List.getElem?_eq_getElem hj, show M.getD j default = M[j] by simp [List.getD, hj]]
  show (catI (M.take j ++ [M[j]])).length = _
  rw [catI_app, catI_one, List.length_append]
theorem readI_nil : readI [] = (itmZ, 0, 12) := rfl
theorem allOne_ik {k : Ik} (h : oneV k.v = true) : allOne (ikC k) = true := one_it h _ _ _ _
theorem itemRows_ok {h : H} {v : V} {K : List Ik} (hK : Its h v K) (hl : K.length ≤ 9223372036854775807) (hf : B.val h.floor ≤ B.val h.next) :
    FnOk Try.prog 6 [v] h fun r h' => r = .b true := by
  refine fn_go c6 (by intro hb; cases hb) (by simp) (by simp) fun Q hQ => ?_
  simp only [slotsF, Nat.reduceAdd]
  repeat' (first
    | refine St.h ?_
    | simp (disch := first | omega | (simp only [lnv]; omega)) only [wlk, ↓get_put', ↓reduceIte, seval]
    | (with_reducible (first | apply cd_split | apply gd_split)) <;> (intro hc; (try simp only [hcn] at hc); (try simp only [hc]); (try simp only [hcl] at hc); try omega))
  refine CL.pure known18 ?_
  repeat' (first
    | refine St.h ?_
    | simp (disch := first | omega | (simp only [lnv]; omega)) only [wlk, ↓get_put', ↓reduceIte, seval, hK.ln]
    | (with_reducible (first | apply cd_split | apply gd_split)) <;> (intro hc; (try simp only [hcn] at hc); (try simp only [hc]); (try simp only [hcl] at hc); try omega))
  · subst hQ; rfl
  refine Ok.lp (fun mm t g => ∃ (i : Nat) (u : V), mm = K.length - i ∧ i ≤ K.length ∧ get 0 t = v ∧ get 3 t = sv (catI (keepI K i)) ∧ get 4 t = u ∧ get 5 t = .i .i64 (i : Int) ∧ Buf g 24 5 u ((keepI K i).flatMap ikC) ∧ (∀ q, isOf u q → B.val h.next ≤ B.val q) ∧ Stay nowhere h g) K.length ?_ ?_
  · simp (disch := first | omega | (simp only [lnv]; omega)) only [wlk, ↓get_put', ↓reduceIte, seval]
    refine ⟨0, .l0, by omega, by omega, ?_, ?_, ?_, ?_, Buf.nil _ _ _, ?_, Stay.refl _ _⟩
    rotate_right
    · rintro i ⟨_, _, _, _, _, e⟩; cases e
    all_goals first | trivial | rfl
  rintro I hI mm t g ⟨i, u, rfl, hi, f0, f3, f4, f5, bf, own, st⟩
  have hfg := st.fl hf
  have hKg := hK.grow st
  have hcl := catI_len (M := keepI K i) fun k hk => (keepI_is hk).1
  have hkl := keepI_len K i
  have hcl2 : (catI (keepI K i)).length ≤ 8400 := by omega
  by_cases hik : i < K.length
  case pos =>
    have hks := keepI_succ hik
    obtain ⟨a1, a2, a3⟩ := hKg.at hik
    obtain ⟨k, hk⟩ : ∃ k, K.getD i default = k := ⟨_, rfl⟩
    rw [hk] at a1 a2 a3 hks
    obtain ⟨kv, lv, n, tn, sh, ws⟩ := k
    have hlt : ((i : Int) < (K.length : Int)) = True := eq_true (by omega)
    repeat' (first
      | refine St.h ?_
      | simp (disch := first | omega | (simp only [lnv]; omega)) only [wlk, ↓get_put', ↓reduceIte, seval, f0, f3, f4, f5, hK.ln, hKg.ix, hKg.la, hk, Int.toNat_natCast, hlt]
      | (with_reducible (first | apply cd_split | apply gd_split)) <;> (intro hc; (try simp only [hcn] at hc); (try simp only [hc]); (try simp only [hcl] at hc); try omega))
    refine CL.stay (few18_ok a1 a3.2.2.2 hfg) fun g1 t1 => ?_
    have hf1 := t1.fl hfg
    have hK1 := hKg.grow t1
    have A1 := a1.grow t1
    cases hfw : fewI ⟨lv, n, tn, sh, ws⟩ with
    | false =>
      repeat' (first
        | refine St.h ?_
        | simp (disch := first | omega | (simp only [lnv]; omega)) only [wlk, ↓get_put', ↓reduceIte, seval, f0, f3, f4, f5]
        | (with_reducible (first | apply cd_split | apply gd_split)) <;> (intro hc; (try simp only [hcn] at hc); (try simp only [hc]); (try simp only [hcl] at hc); try omega))
      subst hQ; rfl
    | true =>
    have h12 : ws.length ≤ 12 := fewI_len hfw
    repeat' (first
      | refine St.h ?_
      | simp (disch := first | omega | (simp only [lnv]; omega)) only [wlk, ↓get_put', ↓reduceIte, seval, f0, f3, f4, f5, hK.ln, hK1.ix, hK1.la, hk, Int.toNat_natCast]
      | (with_reducible (first | apply cd_split | apply gd_split)) <;> (intro hc; (try simp only [hcn] at hc); (try simp only [hc]); (try simp only [hcl] at hc); try omega))
    refine CL.stay (ibytes_ok A1 a2 (by show ws.length ≤ 10000; omega) hf1) fun g2 t2 => ?_
    have hf2 := t2.fl hf1
    have hK2 := hK1.grow t2
    have st2 := (st.trans t1).trans t2
    have bf2 := bf.grow (t1.trans t2)
    cases hi : isI ⟨lv, n, tn, sh, ws⟩ with
    | false =>
      have eb : bytI ⟨lv, n, tn, sh, ws⟩ = ([], false) := by unfold bytI; rw [hi]; rfl
      rw [show isI (Ik.mk kv ⟨lv, n, tn, sh, ws⟩).x = false from hi] at hks
      have hks' : keepI K (i + 1) = keepI K i := hks
      rw [eb]
      repeat' (first
        | refine St.h ?_
        | simp (disch := first | omega | (simp only [lnv]; omega)) only [wlk, ↓get_put', ↓reduceIte, seval, f0, f3, f4, f5]
        | (with_reducible (first | apply cd_split | apply gd_split)) <;> (intro hc; (try simp only [hcn] at hc); (try simp only [hc]); (try simp only [hcl] at hc); try omega))
      refine lp_next hI (K.length - (i + 1)) (by omega) ⟨i + 1, u, rfl, by omega, ?_, ?_, ?_, ?_, by rw [hks']; exact bf2, own, st2⟩
      all_goals first | (simp (disch := first | omega | (simp only [lnv]; omega)) only [wlk, ↓get_put', ↓reduceIte, seval, f0, f3, f4, f5]; done) | (simp (disch := first | omega | (simp only [lnv]; omega)) only [wlk, ↓get_put', ↓reduceIte, seval, f0, f3, f4, f5, hks']; done) | (simp (disch := first | omega | (simp only [lnv]; omega)) only [wlk, ↓get_put', ↓reduceIte, seval, f5]; rfl)
    | true =>
      have eb : bytI ⟨lv, n, tn, sh, ws⟩ = (itmB ⟨lv, n, tn, sh, ws⟩, true) := by unfold bytI; rw [hi]; rfl
      rw [show isI (Ik.mk kv ⟨lv, n, tn, sh, ws⟩).x = true from hi] at hks
      have hks' : keepI K (i + 1) = keepI K i ++ [⟨kv, ⟨lv, n, tn, sh, ws⟩⟩] := hks
      have hcat : catI (keepI K i) ++ itmB ⟨lv, n, tn, sh, ws⟩ = catI (keepI K (i + 1)) := by rw [hks', catI_app, catI_one]
      obtain ⟨b1, b2⟩ := itmB_len hi
      rw [eb]
      repeat' (first
        | refine St.h ?_
        | simp (disch := first | omega | (simp only [lnv]; omega)) only [wlk, ↓get_put', ↓reduceIte, seval, f0, f3, f4, f5, hK2.ix, hK2.la, hk, Int.toNat_natCast, hcat]
        | (with_reducible (first | apply cd_split | apply gd_split)) <;> (intro hc; (try simp only [hcn] at hc); (try simp only [hc]); (try simp only [hcl] at hc); try omega))
      refine AL.own (by simp) hf2 fun g3 t3 n3 o3 => ?_
      have hf3 := t3.fl hf2
      have A3 := A1.grow (t2.trans t3)
      have bf3 := bf2.grow t3
      repeat' (first
        | refine St.h ?_
        | simp (disch := first | omega | (simp only [lnv]; omega)) only [wlk, ↓get_put', ↓reduceIte, seval, f0, f3, f4, f5, hcat]
        | (with_reducible (first | apply cd_split | apply gd_split)) <;> (intro hc; (try simp only [hcn] at hc); (try simp only [hc]); (try simp only [hcl] at hc); try omega))
      refine AP.buf (vs := ikC ⟨kv, ⟨lv, n, tn, sh, ws⟩⟩) (cnt := 1) bf3 (new_row o3.row rfl (Nat.le_refl _) (by omega) (by show 5 ≤ 5; omega)) hf3 (by omega) rfl (allOne_ik (ws_one A1).2) (by rw [fm_len ikC_len]; show _ + 5 ≤ 1048576; omega) fun u4 g4 b4 t4 ho tp4 => ?_
      have b4' : Buf g4 24 5 u4 ((keepI K (i + 1)).flatMap ikC) := by rw [hks', List.flatMap_append]; simpa using b4
      have st3 := st2.trans t3
      have n3' := st3.next
      repeat' (first
        | refine St.h ?_
        | simp (disch := first | omega | (simp only [lnv]; omega)) only [wlk, ↓get_put', ↓reduceIte, seval, f0, f3, f4, f5, hcat]
        | (with_reducible (first | apply cd_split | apply gd_split)) <;> (intro hc; (try simp only [hcn] at hc); (try simp only [hc]); (try simp only [hcl] at hc); try omega))
      refine lp_next hI (K.length - (i + 1)) (by omega) ⟨i + 1, u4, rfl, by omega, ?_, ?_, ?_, ?_, b4', fun q hq => ?_, st3.past' t4 fun q hq => own q hq⟩
      rotate_right
      · rcases ho q hq with h3 | h3
        · exact own q h3
        · omega
      all_goals first | (simp (disch := first | omega | (simp only [lnv]; omega)) only [wlk, ↓get_put', ↓reduceIte, seval, f0, f3, f4, f5, hcat]; done) | (simp (disch := first | omega | (simp only [lnv]; omega)) only [wlk, ↓get_put', ↓reduceIte, seval, f5]; rfl)
  obtain rfl : i = K.length := by omega
  have hge : ((K.length : Int) < (K.length : Int)) = False := eq_false (by omega)
  have hMi : ∀ k ∈ keepI K K.length, isI k.x = true := fun k hk => (keepI_is hk).1
  have hM : Its g u (keepI K K.length) := ⟨Ss.buf bf rfl ikC_len (by omega), fun k hk => hKg.es k (keepI_is hk).2⟩
  generalize keepI K K.length = M at *
  repeat' (first
    | refine St.h ?_
    | simp (disch := first | omega | (simp only [lnv]; omega)) only [wlk, ↓get_put', ↓reduceIte, seval, f0, f3, f4, f5, hK.ln, hge]
    | (with_reducible (first | apply cd_split | apply gd_split)) <;> (intro hc; (try simp only [hcn] at hc); (try simp only [hc]); (try simp only [hcl] at hc); try omega))
  refine Ok.lp (fun mm t g' => ∃ j : Nat, mm = M.length - j ∧ j ≤ M.length ∧ get 3 t = sv (catI M) ∧ get 4 t = u ∧ get 8 t = .i .i64 ((catI (M.take j)).length : Int) ∧ get 9 t = .i .i64 (j : Int) ∧ Stay nowhere g g') M.length ?_ ?_
  · simp (disch := first | omega | (simp only [lnv]; omega)) only [wlk, ↓get_put', ↓reduceIte, seval, f3, f4]
    refine ⟨0, by omega, by omega, ?_, ?_, ?_, ?_, Stay.refl _ _⟩
    all_goals first | trivial | rfl
  rintro I2 hI2 mm t2 g2 ⟨j, rfl, hj, f3, f4, f8, f9, s2⟩
  have hf2 := s2.fl hfg
  have hM2 := hM.grow s2
  by_cases hjl : j < M.length
  case pos =>
    have hrd := catI_read hMi hjl
    have hsc := catI_succ hjl
    have hct := congrArg List.length (catI_cut hjl)
    rw [List.length_append, List.length_append] at hct
    obtain ⟨b1, b2⟩ := itmB_len (hMi _ (getK_in hjl))
    obtain ⟨a1, a2, a3⟩ := hM2.at hjl
    have hrl : (M.getD j default).x.ws.length ≤ 12 := Nat.le_trans (isB_len (isI_isB (hMi _ (getK_in hjl)))) (by omega)
    obtain ⟨k, hk⟩ : ∃ k, M.getD j default = k := ⟨_, rfl⟩
    rw [hk] at a1 a2 a3 hrd hsc hct b1 b2 hrl
    obtain ⟨kv, lv, n, tn, sh, ws⟩ := k
    obtain ⟨p, hp⟩ : ∃ p, (catI (M.take j)).length = p := ⟨_, rfl⟩
    obtain ⟨S, hS⟩ : ∃ S, catI M = S := ⟨_, rfl⟩
    obtain ⟨c, hc⟩ : ∃ c, (itmB (Ik.mk kv ⟨lv, n, tn, sh, ws⟩).x).length = c := ⟨_, rfl⟩
    rw [hp, hS, hc] at hrd
    rw [hp, hc] at hsc
    rw [hp, hS, hc] at hct
    rw [hc] at b1 b2
    rw [hS] at f3 hcl2
    rw [hp] at f8
    have en : ((c : Int) < 1) = False := eq_false (by omega)
    have hlt : ((j : Int) < (M.length : Int)) = True := eq_true (by omega)
    repeat' (first
      | refine St.h ?_
      | simp (disch := first | omega | (simp only [lnv]; omega)) only [wlk, ↓get_put', ↓reduceIte, seval, f3, f4, f8, f9, hM.ln, Int.toNat_natCast, hlt]
      | (with_reducible (first | apply cd_split | apply gd_split)) <;> (intro hc; (try simp only [hcn] at hc); (try simp only [hc]); (try simp only [hcl] at hc); try omega))
    refine CL.mk (iread_ok (s := S.drop p) (by rw [List.length_drop]; omega) hf2) ?_
    rw [hrd]
    rintro _ g3 ⟨u3, rfl, hu3, uo3, t3⟩
    have hf3 := t3.fl hf2
    have u31 := ws_one hu3
    repeat' (first
      | refine St.h ?_
      | simp (disch := first | omega | (simp only [lnv]; omega)) only [wlk, ↓get_put', ↓reduceIte, seval, rdI]
      | (with_reducible (first | apply cd_split | apply gd_split)) <;> (intro hc; (try simp only [hcn] at hc); (try simp only [hc]); (try simp only [hcl] at hc); try omega))
    refine AL.own (by simp) hf3 fun g4 t4 n4 o4 => ?_
    repeat' (first
      | refine St.h ?_
      | simp (disch := first | omega | (simp only [lnv]; omega)) only [wlk, ↓get_put', ↓reduceIte, seval]
      | (with_reducible (first | apply cd_split | apply gd_split)) <;> (intro hc; (try simp only [hcn] at hc); (try simp only [hc]); (try simp only [hcl] at hc); try omega))
    refine ST.all o4 rfl (one_it u31.2 _ _ _ _) (by simp) (by simp) fun g5 o5 t5 => ?_
    have t35 : Stay nowhere g3 g5 := t4.past' t5 fun i e => by rw [e]; exact Nat.le_refl _
    have hf5 := t35.fl hf3
    have hu5 := hu3.grow t35
    have hM5 := hM2.grow (t3.trans t35)
    have A5 := a1.grow (t3.trans t35)
    have r5 := o5.row
    repeat' (first
      | refine St.h ?_
      | simp (disch := first | omega | (simp only [lnv]; omega)) only [wlk, ↓get_put', ↓reduceIte, seval, f3, f4, f8, f9, r5.l1, r5.ln, hM5.ix, hM5.la, hk, en, Int.toNat_natCast]
      | (with_reducible (first | apply cd_split | apply gd_split)) <;> (intro hc; (try simp only [hcn] at hc); (try simp only [hc]); (try simp only [hcl] at hc); try omega))
    refine CL.stay (isame_ok hu5 A5 (by show ws.length ≤ 10000; have : ws.length ≤ 12 := hrl; omega) (by show ws.length ≤ 10000; have : ws.length ≤ 12 := hrl; omega) hf5) fun g6 t6 => ?_
    rw [show decide ((⟨lv, n, tn, sh, ws⟩ : Itm) = ⟨lv, n, tn, sh, ws⟩) = true from decide_eq_true rfl]
    repeat' (first
      | refine St.h ?_
      | simp (disch := first | omega | (simp only [lnv]; omega)) only [wlk, ↓get_put', ↓reduceIte, seval, f3, f4, f8, f9, en]
      | (with_reducible (first | apply cd_split | apply gd_split)) <;> (intro hc; (try simp only [hcn] at hc); (try simp only [hc]); (try simp only [hcl] at hc); try omega))
    refine lp_next hI2 (M.length - (j + 1)) (by omega) ⟨j + 1, rfl, by omega, ?_, ?_, ?_, ?_, ((s2.trans t3).trans t35).trans t6⟩
    · simp (disch := first | omega | (simp only [lnv]; omega)) only [wlk, ↓get_put', ↓reduceIte, seval, f3, hS]
    · simp (disch := first | omega | (simp only [lnv]; omega)) only [wlk, ↓get_put', ↓reduceIte, seval, f4]
    · rw [hsc]
      simp (disch := first | omega | (simp only [lnv]; omega)) only [wlk, ↓get_put', ↓reduceIte, seval, f8]
      rfl
    · simp (disch := first | omega | (simp only [lnv]; omega)) only [wlk, ↓get_put', ↓reduceIte, seval, f9]
      rfl
  obtain rfl : j = M.length := by omega
  have hge : ((M.length : Int) < (M.length : Int)) = False := eq_false (by omega)
  rw [List.take_length] at f8
  have hdn : (catI M).drop (catI M).length = [] := List.drop_length
  repeat' (first
    | refine St.h ?_
    | simp (disch := first | omega | (simp only [lnv]; omega)) only [wlk, ↓get_put', ↓reduceIte, seval, f3, f4, f8, f9, hM.ln, Int.toNat_natCast, hdn, hge]
    | (with_reducible (first | apply cd_split | apply gd_split)) <;> (intro hc; (try simp only [hcn] at hc); (try simp only [hc]); (try simp only [hcl] at hc); try omega))
  refine CL.mk (iread_ok (s := []) (by simp) hf2) ?_
  rw [readI_nil]
  rintro _ g3 ⟨u3, rfl, hu3, uo3, t3⟩
  have hf3 := t3.fl hf2
  have u31 := ws_one hu3
  repeat' (first
    | refine St.h ?_
    | simp (disch := first | omega | (simp only [lnv]; omega)) only [wlk, ↓get_put', ↓reduceIte, seval, rdI]
    | (with_reducible (first | apply cd_split | apply gd_split)) <;> (intro hc; (try simp only [hcn] at hc); (try simp only [hc]); (try simp only [hcl] at hc); try omega))
  refine AL.own (by simp) hf3 fun g4 t4 n4 o4 => ?_
  repeat' (first
    | refine St.h ?_
    | simp (disch := first | omega | (simp only [lnv]; omega)) only [wlk, ↓get_put', ↓reduceIte, seval]
    | (with_reducible (first | apply cd_split | apply gd_split)) <;> (intro hc; (try simp only [hcn] at hc); (try simp only [hc]); (try simp only [hcl] at hc); try omega))
  refine ST.all o4 rfl (one_it u31.2 _ _ _ _) (by simp) (by simp) fun g5 o5 t5 => ?_
  repeat' (first
    | refine St.h ?_
    | simp (disch := first | omega | (simp only [lnv]; omega)) only [wlk, ↓get_put', ↓reduceIte, seval, f3, f8]
    | (with_reducible (first | apply cd_split | apply gd_split)) <;> (intro hc; (try simp only [hcn] at hc); (try simp only [hc]); (try simp only [hcl] at hc); try omega))
  subst hQ
  rfl
end Go.Proofs.Ytmlcddeikgechaa

namespace Go.Proofs.Ytmlcddeikgechaa.itemRows
open Go Go.Ev Go.ChangeShapes Go.WideShapes Go.ChangeAt Go.RowKit Go.ChangeMaps
set_option linter.all false
theorem own : ownKnob Try.prog.godebug = none := by kernel_rfl
theorem laid : laidOutB Try.prog = true := by kernel_rfl
theorem heap_pos {W : World} (h : W.ShapedOpen Try.prog) : 0 < W.heap.size := by
  obtain ⟨o, _, h1, _⟩ := h.2 Try.prog.globals.size (Nat.le_refl _) (of_decide_eq_true (by kernel_rfl))
  exact Nat.lt_of_le_of_lt (Nat.zero_le _) (Array.getElem?_eq_some_iff.1 h1).1
set_option maxRecDepth 100000 in
theorem isI0 : ∃ fs, ItmF Try.prog 24 fs := ⟨_, ⟨Try.underlying24, by kernel_rfl, ⟨_, rfl, rfl, by kernel_rfl, Try.underlying3⟩, ⟨_, rfl, rfl, by kernel_rfl, Try.underlying3⟩, ⟨_, rfl, rfl, by kernel_rfl, Try.underlying3⟩, ⟨_, rfl, rfl, by kernel_rfl, Try.underlying4⟩, ⟨_, rfl, rfl, by kernel_rfl, _, _, Try.underlying22, ⟨Try.underlying39, by kernel_rfl, ⟨⟨_, rfl, rfl, by kernel_rfl, Try.underlying9⟩, ⟨_, rfl, rfl, by kernel_rfl, Try.underlying4⟩, ⟨_, rfl, rfl, by kernel_rfl, Try.underlying9⟩, trivial⟩⟩⟩⟩⟩
set_option maxRecDepth 100000 in
theorem run {H : Type} {enc : TypeId × Value → H} (W : World) (base : Nat) (args : Array Value) (ds : List (DataW H)) (p : List MemPlace) (hval : ∀ (j : Nat) t v, Try.f6.params[j]? = some t → args[j]? = some v → Value.okWide Try.prog W .any base t v) (hopen : W.ShapedOpen Try.prog)
    (hA : DataW.TrodAll enc Try.prog W 0 (fun _ => true) true Try.f6.params.toList args.toList ds p) : Calls Try.prog 6 args W fun e w' => e = .returned (.bool true) ∧ Below W.heap.size W w' := by
  rw [Try.params6] at hA hval
  obtain ⟨v0, vs0, d0, ds0, p0, q0, hargs, rfl, rfl, h0, r0⟩ := trodAll_cons hA
  obtain ⟨rfl, rfl, rfl⟩ := trodAll_nil r0
  obtain rfl : args = #[v0] := by cases args; simp_all
  obtain ⟨h, s1, s2⟩ := Go.Ev.start W
  have s : Go.Ev.Start W h := ⟨s1, s2⟩
  obtain ⟨x0, y0, z0, rfl⟩ := okWide_slice Try.underlying45 (hval 0 45 v0 rfl rfl)
  obtain ⟨fu0, hfu0⟩ := h0
  obtain ⟨fs0, F0⟩ := isI0
  obtain ⟨u0, L0, e0, m0, l0⟩ := its_of s (heap_pos hopen) Try.underlying45 F0 hfu0
  obtain rfl := (List.cons.inj (show [Value.slice x0 y0 z0] = [u0] from e0)).1
  exact calls_true s (vs := [absV W (.slice x0 y0 z0)]) ⟨absV_rel W _, trivial⟩ (itemRows_ok m0 l0 s1.flo)
set_option maxRecDepth 100000 in
theorem lifted (os : Os) (started : os.Started) (H : Type) (enc : TypeId × Value → H) :
    ReturnsInHanded {} Try.checked os 6 .any (Rows.itemRowsSpec.pre6 enc Try.prog Try.f6 Rows.itemRowsRow.domain false) (Rows.itemRowsSpec.post enc Try.prog Try.f6 false true false false) :=
  law_lifted (C := Try.checked) own started (by kernel_rfl) Try.func6
    (ChangeSpec.witness6 (enc := enc) (C := Try.checked) false ⟨#[], #[.slice none 0 0], []⟩ 8 (by kernel_rfl) (by kernel_rfl) (by kernel_rfl) (by kernel_rfl))
    rfl (fun ds hd => by rw [Try.params6] at hd; match ds, hd with | [d1], _ => rfl) laid (by kernel_rfl) (by kernel_rfl) Try.underlying4 (fun W base args ds p hv ho hA => run W base args ds p hv ho hA)
theorem over : Rows.itemRowsRow.holds Try.pinned (OpenSpec.ofChange Rows.itemRowsSpec) :=
  OpenClaim.holds_of_wide 6 Try.f6 rfl rfl rfl rfl rfl rfl rfl ⟨rfl, rfl, rfl, rfl, rfl⟩ rfl rfl rfl rfl rfl (by kernel_rfl) Try.func6 (by kernel_rfl)
    (of_decide_eq_true (by kernel_rfl)) (by unfold Func.isWrapper; first | (rw [if_pos (by decide +kernel)]; kernel_rfl) | (rw [if_neg (by decide +kernel)]; exact ⟨rfl, rfl⟩))
    (fun os started H enc _ => lifted os started H enc)
/-- THE STATEMENT -/
theorem proved : Rows.ItemRowsSaid :=
  over
end Go.Proofs.Ytmlcddeikgechaa.itemRows
