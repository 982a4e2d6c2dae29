/- Texts of ours, without what this claim does not use: NBaT BaR JrBaP NBaU BaL BaP JrBld NBld Wh Knravelinlaw12 NBaP JrBa2 NBa4 BaW. No condition. -/
import Derived.Test.YthncpgkpkdolfaaPkBatchLogs4
import Derived.Test.YthncpgkpkdolfaaProg
import Derived.KernelRfl
import Derived.Test.YthncpgkpkdolfaaChecked
import Derived.Test.YthncpgkpkdolfaaRows
set_option maxRecDepth 100000
set_option maxHeartbeats 8000000
set_option linter.all false
namespace Go.Proofs.Ythncpgkpkdolfaa
open Go Go.Ev
section
variable {L : List Wri} {N : Nat}
def SmOk (L : List Wri) (N : Nat) (K : Nat) : Prop := ∀ {h : H} {v : V} {p : Nat → Nat} {a m b : Nat}, b - a < K → Rw h v (rwK L p N) → a < m → m < b → b ≤ N → Srt L p a m → Srt L p m b → Stb L p a m b → B.val h.floor ≤ B.val h.next →
  FnOk Try.prog 58 [v, .i .i64 (a : Int), .i .i64 (m : Int), .i .i64 (b : Int), .f 40 []] h fun y h' => ∃ q, Per p q a b ∧ Srt L q a b ∧ Rw h' v (rwK L q N) ∧ Stay (isOf v) h h'
theorem sm_up {h : H} {v : V} {p : Nat → Nat} {a b : Nat} (hN : N ≤ 1000) (rb : Rw h v (rwK L p N)) (h1 : a + 1 < b) (h2 : b ≤ N) (Bs : Srt L p (a + 1) b) (S : Stb L p a (a + 1) b) (hf : B.val h.floor ≤ B.val h.next) :
    FnOk Try.prog 58 [v, .i .i64 (a : Int), .i .i64 ((a + 1 : Nat) : Int), .i .i64 (b : Int), .f 40 []] h fun y h' => ∃ q, Per p q a b ∧ Srt L q a b ∧ Rw h' v (rwK L q N) ∧ Stay (isOf v) h h' := by
  have d0 : (((a + 1 : Nat) : Int) - (a : Int) = 1) = True := eq_true (by omega)
  have ln : ∀ q : Nat → Nat, (rwK L q N).length = N := fun q => rwK_len
  refine fn_go c58 (by intro hb; cases hb) (by simp) (by simp) fun Q hQ => ?_
  simp only [slotsF, Nat.reduceAdd]
  repeat' (first
    | refine St.h ?_
    | simp (disch := first | omega | (simp only [lnv]; omega)) only [wlk, ↓get_put', ↓reduceIte, seval, d0]
    | (with_reducible (first | apply cd_split | apply gd_split)) <;> (intro hc; (try simp only [hcn] at hc); (try simp only [hc]); (try simp only [hcl] at hc); try omega))
  refine Ok.lp (fun k t g => ∃ i j : Nat, k = j - i ∧ a + 1 ≤ i ∧ i ≤ j ∧ j ≤ b ∧ (i = a + 1 ∨ klK L (p (i - 1)) (p a) = true) ∧ (j = b ∨ klK L (p j) (p a) = false) ∧ get 0 t = v ∧ get 1 t = .i .i64 (a : Int) ∧ get 4 t = .f 40 [] ∧ get 10 t = .i .i64 (i : Int) ∧ get 11 t = .i .i64 (j : Int) ∧ Rw g v (rwK L p N) ∧ Stay (isOf v) h g) (b - (a + 1)) ?_ ?_
  · simp (disch := first | omega | (simp only [lnv]; omega)) only [wlk, ↓get_put', ↓reduceIte, seval]
    refine ⟨a + 1, b, by omega, by omega, by omega, by omega, .inl rfl, .inl rfl, ?_⟩
    refine ⟨?_, ?_, ?_, ?_, ?_, rb, ⟨rfl, Nat.le_refl _, fun _ _ _ => rfl⟩⟩
    all_goals first | trivial | rfl
  rintro I hI k t g ⟨i, j, rfl, hi, hij, hj, x2, x3, f0, f1, f4, f10, f11, rb, st⟩
  have hfg := st.fl hf
  have W1 := rb.ws
  have ga : (rwK L p N).getD a default = L.getD (p a) default := rwK_getD (by omega)
  by_cases hlt : i < j
  case pos =>
    have hm : ((i : Int) + (j : Int)).toNat / 2 = (i + j) / 2 := by omega
    have hm2 : ((i : Int) + (j : Int)) / 2 = (((i + j) / 2 : Nat) : Int) := by omega
    have gb : (rwK L p N).getD ((i + j) / 2) default = L.getD (p ((i + j) / 2)) default := rwK_getD (by omega)
    have d1 : ((i : Int) < (j : Int)) = True := eq_true (by omega)
    have l1 := ln p
    repeat' (first
      | refine St.h ?_
      | simp (disch := first | omega | (simp only [lnv]; omega)) only [wlk, ↓get_put', ↓reduceIte, seval, f0, f1, f4, f10, f11, d1, hm, hm2, W1.ix, W1.la, ga, gb, Int.toNat_natCast]
      | (with_reducible (first | apply cd_split | apply gd_split)) <;> (intro hc; (try simp only [hcn] at hc); (try simp only [hc]); (try simp only [hcl] at hc); try omega))
    refine CL.stay (byKey12_ok (a := L.getD (p ((i + j) / 2)) default) (b := L.getD (p a) default) hfg) fun g3 s3 => ?_
    have rb3 := rb.grow s3
    have st3 := st.trans (s3.mono fun _ _ hq => hq.elim)
    cases hk : klK L (p ((i + j) / 2)) (p a) with
    | true =>
      have d2 := cmpW_t hk
      repeat' (first
        | refine St.h ?_
        | simp (disch := first | omega | (simp only [lnv]; omega)) only [wlk, ↓get_put', ↓reduceIte, seval, f0, f1, f4, f10, f11, d2]
        | (with_reducible (first | apply cd_split | apply gd_split)) <;> (intro hc; (try simp only [hcn] at hc); (try simp only [hc]); (try simp only [hcl] at hc); try omega))
      refine lp_next hI (j - ((i + j) / 2 + 1)) (by omega) ⟨(i + j) / 2 + 1, j, rfl, by omega, by omega, by omega, .inr (by rw [Nat.add_sub_cancel]; exact hk), x3, by simp (disch := first | omega | (simp only [lnv]; omega)) only [wlk, ↓get_put', ↓reduceIte, seval, f0], by simp (disch := first | omega | (simp only [lnv]; omega)) only [wlk, ↓get_put', ↓reduceIte, seval, f1], by simp (disch := first | omega | (simp only [lnv]; omega)) only [wlk, ↓get_put', ↓reduceIte, seval, f4], by simp (disch := first | omega | (simp only [lnv]; omega)) only [wlk, ↓get_put', ↓reduceIte, seval]; rfl, by simp (disch := first | omega | (simp only [lnv]; omega)) only [wlk, ↓get_put', ↓reduceIte, seval, f11], rb3, st3⟩
    | false =>
      have d2 := cmpW_f hk
      repeat' (first
        | refine St.h ?_
        | simp (disch := first | omega | (simp only [lnv]; omega)) only [wlk, ↓get_put', ↓reduceIte, seval, f0, f1, f4, f10, f11, d2]
        | (with_reducible (first | apply cd_split | apply gd_split)) <;> (intro hc; (try simp only [hcn] at hc); (try simp only [hc]); (try simp only [hcl] at hc); try omega))
      refine lp_next hI ((i + j) / 2 - i) (by omega) ⟨i, (i + j) / 2, rfl, by omega, by omega, by omega, x2, .inr hk, by simp (disch := first | omega | (simp only [lnv]; omega)) only [wlk, ↓get_put', ↓reduceIte, seval, f0], by simp (disch := first | omega | (simp only [lnv]; omega)) only [wlk, ↓get_put', ↓reduceIte, seval, f1], by simp (disch := first | omega | (simp only [lnv]; omega)) only [wlk, ↓get_put', ↓reduceIte, seval, f4], by simp (disch := first | omega | (simp only [lnv]; omega)) only [wlk, ↓get_put', ↓reduceIte, seval, f10], by simp (disch := first | omega | (simp only [lnv]; omega)) only [wlk, ↓get_put', ↓reduceIte, seval], rb3, st3⟩
  obtain rfl : i = j := by omega
  have y2 : i = a + 1 ∨ ltK L (p (i - 1)) (p a) := x2.imp id fun e => ltK_kl e
  have y3 : i = b ∨ ltK L (p a) (p i) := by
    by_cases e : i = b
    · exact .inl e
    · exact .inr (ltK_no (x3.resolve_left e) fun e2 => S a i (Nat.le_refl _) (by omega) hi (by omega) e2)
  have d1 : ((i : Int) < (i : Int)) = False := eq_false (by omega)
  have sq := rot_one_up hi hj Bs y2 y3
  repeat' (first
    | refine St.h ?_
    | simp (disch := first | omega | (simp only [lnv]; omega)) only [wlk, ↓get_put', ↓reduceIte, seval, f0, f1, f4, f10, f11, d1]
    | (with_reducible (first | apply cd_split | apply gd_split)) <;> (intro hc; (try simp only [hcn] at hc); (try simp only [hc]); (try simp only [hcl] at hc); try omega))
  refine Ok.lp (fun k t g => ∃ z : Nat, k = i - z ∧ a + z + 1 ≤ i ∧ get 0 t = v ∧ get 10 t = .i .i64 (i : Int) ∧ get 13 t = .i .i64 ((a + z : Nat) : Int) ∧ Rw g v (rwK L (rotK p a 1 z) N) ∧ Stay (isOf v) h g) i ?_ ?_
  · simp (disch := first | omega | (simp only [lnv]; omega)) only [wlk, ↓get_put', ↓reduceIte, seval, f0, f1, f4, f10]
    refine ⟨0, by omega, by omega, ?_, ?_, ?_, by rw [rot_n0]; exact rb, st⟩
    all_goals first | trivial | rfl
  rintro I2 hI2 k2 t2 g2 ⟨z, rfl, hz, e0, e10, e13, rb2, st2⟩
  have hfg2 := st2.fl hf
  have W2 := rb2.ws
  by_cases hzi : a + z + 1 < i
  case neg =>
    have d1 : (((a + z : Nat) : Int) < (i : Int) - 1) = False := eq_false (by omega)
    repeat' (first
      | refine St.h ?_
      | simp (disch := first | omega | (simp only [lnv]; omega)) only [wlk, ↓get_put', ↓reduceIte, seval, e0, e10, e13, d1]
      | (with_reducible (first | apply cd_split | apply gd_split)) <;> (intro hc; (try simp only [hcn] at hc); (try simp only [hc]); (try simp only [hcl] at hc); try omega))
    subst hQ
    obtain rfl : z = i - (a + 1) := by omega
    exact ⟨_, rot_per (Nat.le_refl _) (by omega), sq, rb2, st2⟩
  have d1 : (((a + z : Nat) : Int) < (i : Int) - 1) = True := eq_true (by omega)
  have ez : (((a + z : Nat) : Int) + 1).toNat = a + z + 1 := by omega
  have gc : (rwK L (rotK p a 1 z) N).getD (a + z) default = L.getD (rotK p a 1 z (a + z)) default := rwK_getD (by omega)
  have gd : (rwK L (rotK p a 1 z) N).getD (a + z + 1) default = L.getD (rotK p a 1 z (a + z + 1)) default := rwK_getD (by omega)
  have l2 := ln (rotK p a 1 z)
  repeat' (first
    | refine St.h ?_
    | simp (disch := first | omega | (simp only [lnv]; omega)) only [wlk, ↓get_put', ↓reduceIte, seval, e0, e10, e13, d1, W2.ix, W2.la, ez, gc, gd, Int.toNat_natCast]
    | (with_reducible (first | apply cd_split | apply gd_split)) <;> (intro hc; (try simp only [hcn] at hc); (try simp only [hc]); (try simp only [hcl] at hc); try omega))
  refine st_bufS (c := wriC) (x := L.getD (rotK p a 1 z (a + z + 1)) default) rb2.1 rb2.2 wriC_len (by omega) (by omega) (by omega) rfl fun h3 B3 T3 s4 => ?_
  have W4 : Ws h3 v ((rwK L (rotK p a 1 z) N).set (a + z) (L.getD (rotK p a 1 z (a + z + 1)) default)) := Ss.buf B3 rfl wriC_len (by omega)
  repeat' (first
    | refine St.h ?_
    | simp (disch := first | omega | (simp only [lnv]; omega)) only [wlk, ↓get_put', ↓reduceIte, seval, e0, e10, e13, ez, W4.ix]
    | (with_reducible (first | apply cd_split | apply gd_split)) <;> (intro hc; (try simp only [hcn] at hc); (try simp only [hc]); (try simp only [hcl] at hc); try omega))
  refine st_bufS (c := wriC) (x := L.getD (rotK p a 1 z (a + z)) default) B3 T3 wriC_len (by omega) (by rw [List.length_set]; omega) (by rw [List.length_set]; omega) rfl fun h4 B4 T4 s5 => ?_
  rw [rwK_set, rot_up] at B4
  repeat' (first
    | refine St.h ?_
    | simp (disch := first | omega | (simp only [lnv]; omega)) only [wlk, ↓get_put', ↓reduceIte, seval, e0, e10, e13]
    | (with_reducible (first | apply cd_split | apply gd_split)) <;> (intro hc; (try simp only [hcn] at hc); (try simp only [hc]); (try simp only [hcl] at hc); try omega))
  refine lp_next hI2 (i - (z + 1)) (by omega) ⟨z + 1, rfl, by omega, by simp (disch := first | omega | (simp only [lnv]; omega)) only [wlk, ↓get_put', ↓reduceIte, seval, e0], by simp (disch := first | omega | (simp only [lnv]; omega)) only [wlk, ↓get_put', ↓reduceIte, seval, e10], by simp (disch := first | omega | (simp only [lnv]; omega)) only [wlk, ↓get_put', ↓reduceIte, seval, e13]; rfl, ⟨B4, T4⟩, st2.trans (s4.trans s5)⟩
theorem sm_dn {h : H} {v : V} {p : Nat → Nat} {a m : Nat} (hN : N ≤ 1000) (rb : Rw h v (rwK L p N)) (h1 : a + 1 < m) (h2 : m + 1 ≤ N) (A : Srt L p a m) (S : Stb L p a m (m + 1)) (hf : B.val h.floor ≤ B.val h.next) :
    FnOk Try.prog 58 [v, .i .i64 (a : Int), .i .i64 (m : Int), .i .i64 ((m + 1 : Nat) : Int), .f 40 []] h fun y h' => ∃ q, Per p q a (m + 1) ∧ Srt L q a (m + 1) ∧ Rw h' v (rwK L q N) ∧ Stay (isOf v) h h' := by
  have d00 : ((m : Int) - (a : Int) = 1) = False := eq_false (by omega)
  have d0 : (((m + 1 : Nat) : Int) - (m : Int) = 1) = True := eq_true (by omega)
  have ln : ∀ q : Nat → Nat, (rwK L q N).length = N := fun q => rwK_len
  refine fn_go c58 (by intro hb; cases hb) (by simp) (by simp) fun Q hQ => ?_
  simp only [slotsF, Nat.reduceAdd]
  repeat' (first
    | refine St.h ?_
    | simp (disch := first | omega | (simp only [lnv]; omega)) only [wlk, ↓get_put', ↓reduceIte, seval, d00, d0]
    | (with_reducible (first | apply cd_split | apply gd_split)) <;> (intro hc; (try simp only [hcn] at hc); (try simp only [hc]); (try simp only [hcl] at hc); try omega))
  refine Ok.lp (fun k t g => ∃ i j : Nat, k = j - i ∧ a ≤ i ∧ i ≤ j ∧ j ≤ m ∧ (i = a ∨ klK L (p m) (p (i - 1)) = false) ∧ (j = m ∨ klK L (p m) (p j) = true) ∧ get 0 t = v ∧ get 2 t = .i .i64 (m : Int) ∧ get 4 t = .f 40 [] ∧ get 14 t = .i .i64 (i : Int) ∧ get 15 t = .i .i64 (j : Int) ∧ Rw g v (rwK L p N) ∧ Stay (isOf v) h g) (m - a) ?_ ?_
  · simp (disch := first | omega | (simp only [lnv]; omega)) only [wlk, ↓get_put', ↓reduceIte, seval]
    refine ⟨a, m, by omega, by omega, by omega, by omega, .inl rfl, .inl rfl, ?_⟩
    refine ⟨?_, ?_, ?_, ?_, ?_, rb, ⟨rfl, Nat.le_refl _, fun _ _ _ => rfl⟩⟩
    all_goals first | trivial | rfl
  rintro I hI k t g ⟨i, j, rfl, hi, hij, hj, x2, x3, f0, f2, f4, f14, f15, rb, st⟩
  have hfg := st.fl hf
  have W1 := rb.ws
  have ga : (rwK L p N).getD m default = L.getD (p m) default := rwK_getD (by omega)
  by_cases hlt : i < j
  case pos =>
    have hm : ((i : Int) + (j : Int)).toNat / 2 = (i + j) / 2 := by omega
    have hm2 : ((i : Int) + (j : Int)) / 2 = (((i + j) / 2 : Nat) : Int) := by omega
    have gb : (rwK L p N).getD ((i + j) / 2) default = L.getD (p ((i + j) / 2)) default := rwK_getD (by omega)
    have d1 : ((i : Int) < (j : Int)) = True := eq_true (by omega)
    have l1 := ln p
    repeat' (first
      | refine St.h ?_
      | simp (disch := first | omega | (simp only [lnv]; omega)) only [wlk, ↓get_put', ↓reduceIte, seval, f0, f2, f4, f14, f15, d1, hm, hm2, W1.ix, W1.la, ga, gb, Int.toNat_natCast]
      | (with_reducible (first | apply cd_split | apply gd_split)) <;> (intro hc; (try simp only [hcn] at hc); (try simp only [hc]); (try simp only [hcl] at hc); try omega))
    refine CL.stay (byKey12_ok (a := L.getD (p m) default) (b := L.getD (p ((i + j) / 2)) default) hfg) fun g3 s3 => ?_
    have rb3 := rb.grow s3
    have st3 := st.trans (s3.mono fun _ _ hq => hq.elim)
    cases hk : klK L (p m) (p ((i + j) / 2)) with
    | false =>
      have d2 := cmpW_f hk
      repeat' (first
        | refine St.h ?_
        | simp (disch := first | omega | (simp only [lnv]; omega)) only [wlk, ↓get_put', ↓reduceIte, seval, f0, f2, f4, f14, f15, d2]
        | (with_reducible (first | apply cd_split | apply gd_split)) <;> (intro hc; (try simp only [hcn] at hc); (try simp only [hc]); (try simp only [hcl] at hc); try omega))
      refine lp_next hI (j - ((i + j) / 2 + 1)) (by omega) ⟨(i + j) / 2 + 1, j, rfl, by omega, by omega, by omega, .inr (by rw [Nat.add_sub_cancel]; exact hk), x3, by simp (disch := first | omega | (simp only [lnv]; omega)) only [wlk, ↓get_put', ↓reduceIte, seval, f0], by simp (disch := first | omega | (simp only [lnv]; omega)) only [wlk, ↓get_put', ↓reduceIte, seval, f2], by simp (disch := first | omega | (simp only [lnv]; omega)) only [wlk, ↓get_put', ↓reduceIte, seval, f4], by simp (disch := first | omega | (simp only [lnv]; omega)) only [wlk, ↓get_put', ↓reduceIte, seval]; rfl, by simp (disch := first | omega | (simp only [lnv]; omega)) only [wlk, ↓get_put', ↓reduceIte, seval, f15], rb3, st3⟩
    | true =>
      have d2 := cmpW_t hk
      repeat' (first
        | refine St.h ?_
        | simp (disch := first | omega | (simp only [lnv]; omega)) only [wlk, ↓get_put', ↓reduceIte, seval, f0, f2, f4, f14, f15, d2]
        | (with_reducible (first | apply cd_split | apply gd_split)) <;> (intro hc; (try simp only [hcn] at hc); (try simp only [hc]); (try simp only [hcl] at hc); try omega))
      refine lp_next hI ((i + j) / 2 - i) (by omega) ⟨i, (i + j) / 2, rfl, by omega, by omega, by omega, x2, .inr hk, by simp (disch := first | omega | (simp only [lnv]; omega)) only [wlk, ↓get_put', ↓reduceIte, seval, f0], by simp (disch := first | omega | (simp only [lnv]; omega)) only [wlk, ↓get_put', ↓reduceIte, seval, f2], by simp (disch := first | omega | (simp only [lnv]; omega)) only [wlk, ↓get_put', ↓reduceIte, seval, f4], by simp (disch := first | omega | (simp only [lnv]; omega)) only [wlk, ↓get_put', ↓reduceIte, seval, f14], by simp (disch := first | omega | (simp only [lnv]; omega)) only [wlk, ↓get_put', ↓reduceIte, seval], rb3, st3⟩
  obtain rfl : i = j := by omega
  have y2 : i = a ∨ ltK L (p (i - 1)) (p m) := by
    by_cases e : i = a
    · exact .inl e
    · exact .inr (ltK_no (x2.resolve_left e) fun e2 => S (i - 1) m (by omega) (by omega) (Nat.le_refl _) (by omega) e2)
  have y3 : i = m ∨ ltK L (p m) (p i) := x3.imp id fun e => ltK_kl e
  have d1 : ((i : Int) < (i : Int)) = False := eq_false (by omega)
  have sq := rot_one_dn hi hj A y2 y3
  repeat' (first
    | refine St.h ?_
    | simp (disch := first | omega | (simp only [lnv]; omega)) only [wlk, ↓get_put', ↓reduceIte, seval, f0, f2, f4, f14, f15, d1]
    | (with_reducible (first | apply cd_split | apply gd_split)) <;> (intro hc; (try simp only [hcn] at hc); (try simp only [hc]); (try simp only [hcl] at hc); try omega))
  refine Ok.lp (fun k t g => ∃ z : Nat, k = z ∧ i ≤ z ∧ z ≤ m ∧ get 0 t = v ∧ get 14 t = .i .i64 (i : Int) ∧ get 17 t = .i .i64 (z : Int) ∧ Rw g v (rwK L (rotK p z (m - z) 1) N) ∧ Stay (isOf v) h g) m ?_ ?_
  · simp (disch := first | omega | (simp only [lnv]; omega)) only [wlk, ↓get_put', ↓reduceIte, seval, f0, f2, f4, f14]
    refine ⟨m, by omega, by omega, by omega, ?_, ?_, ?_, by rw [Nat.sub_self, rot_0n]; exact rb, st⟩
    all_goals first | trivial | rfl
  rintro I2 hI2 k2 t2 g2 ⟨z, rfl, hz, hzm, e0, e14, e17, rb2, st2⟩
  have hfg2 := st2.fl hf
  have W2 := rb2.ws
  by_cases hzi : i < k2
  case neg =>
    have d1 : ((i : Int) < (k2 : Int)) = False := eq_false (by omega)
    repeat' (first
      | refine St.h ?_
      | simp (disch := first | omega | (simp only [lnv]; omega)) only [wlk, ↓get_put', ↓reduceIte, seval, e0, e14, e17, d1]
      | (with_reducible (first | apply cd_split | apply gd_split)) <;> (intro hc; (try simp only [hcn] at hc); (try simp only [hc]); (try simp only [hcl] at hc); try omega))
    subst hQ
    obtain rfl : k2 = i := by omega
    exact ⟨_, rot_per hi (by omega), sq, rb2, st2⟩
  have d1 : ((i : Int) < (k2 : Int)) = True := eq_true (by omega)
  obtain ⟨n, rfl⟩ : ∃ n, k2 = n + 1 := ⟨k2 - 1, by omega⟩
  have ez : (((n + 1 : Nat) : Int) - 1).toNat = n := by omega
  have ez' : ((n + 1 : Nat) : Int) - 1 = (n : Int) := by omega
  have gc : (rwK L (rotK p (n + 1) (m - (n + 1)) 1) N).getD n default = L.getD (rotK p (n + 1) (m - (n + 1)) 1 n) default := rwK_getD (by omega)
  have gd : (rwK L (rotK p (n + 1) (m - (n + 1)) 1) N).getD (n + 1) default = L.getD (rotK p (n + 1) (m - (n + 1)) 1 (n + 1)) default := rwK_getD (by omega)
  have l2 := ln (rotK p (n + 1) (m - (n + 1)) 1)
  repeat' (first
    | refine St.h ?_
    | simp (disch := first | omega | (simp only [lnv]; omega)) only [wlk, ↓get_put', ↓reduceIte, seval, e0, e14, e17, d1, W2.ix, W2.la, ez, gc, gd, Int.toNat_natCast]
    | (with_reducible (first | apply cd_split | apply gd_split)) <;> (intro hc; (try simp only [hcn] at hc); (try simp only [hc]); (try simp only [hcl] at hc); try omega))
  refine st_bufS (c := wriC) (x := L.getD (rotK p (n + 1) (m - (n + 1)) 1 n) default) rb2.1 rb2.2 wriC_len (by omega) (by omega) (by omega) rfl fun h3 B3 T3 s4 => ?_
  have W4 : Ws h3 v ((rwK L (rotK p (n + 1) (m - (n + 1)) 1) N).set (n + 1) (L.getD (rotK p (n + 1) (m - (n + 1)) 1 n) default)) := Ss.buf B3 rfl wriC_len (by omega)
  repeat' (first
    | refine St.h ?_
    | simp (disch := first | omega | (simp only [lnv]; omega)) only [wlk, ↓get_put', ↓reduceIte, seval, e0, e14, e17, ez, W4.ix]
    | (with_reducible (first | apply cd_split | apply gd_split)) <;> (intro hc; (try simp only [hcn] at hc); (try simp only [hc]); (try simp only [hcl] at hc); try omega))
  refine st_bufS (c := wriC) (x := L.getD (rotK p (n + 1) (m - (n + 1)) 1 (n + 1)) default) B3 T3 wriC_len (by omega) (by rw [List.length_set]; omega) (by rw [List.length_set]; omega) rfl fun h4 B4 T4 s5 => ?_
  rw [rwK_set, rot_dn, show m - (n + 1) + 1 = m - n by omega] at B4
  repeat' (first
    | refine St.h ?_
    | simp (disch := first | omega | (simp only [lnv]; omega)) only [wlk, ↓get_put', ↓reduceIte, seval, e0, e14, e17]
    | (with_reducible (first | apply cd_split | apply gd_split)) <;> (intro hc; (try simp only [hcn] at hc); (try simp only [hc]); (try simp only [hcl] at hc); try omega))
  refine lp_next hI2 n (by omega) ⟨n, rfl, by omega, by omega, by simp (disch := first | omega | (simp only [lnv]; omega)) only [wlk, ↓get_put', ↓reduceIte, seval, e0], by simp (disch := first | omega | (simp only [lnv]; omega)) only [wlk, ↓get_put', ↓reduceIte, seval, e14], by simp (disch := first | omega | (simp only [lnv]; omega)) only [wlk, ↓get_put', ↓reduceIte, seval, ez', e17], ⟨B4, T4⟩, st2.trans (s4.trans s5)⟩
theorem sm_step {K : Nat} (hN : N ≤ 1000) (ih : SmOk L N K) {h : H} {v : V} {p : Nat → Nat} {a m b : Nat} (hK : b - a < K + 1) (rb : Rw h v (rwK L p N)) (h1 : a < m) (h2 : m < b) (h3 : b ≤ N) (A : Srt L p a m) (Bs : Srt L p m b) (S : Stb L p a m b) (hf : B.val h.floor ≤ B.val h.next) :
    FnOk Try.prog 58 [v, .i .i64 (a : Int), .i .i64 (m : Int), .i .i64 (b : Int), .f 40 []] h fun y h' => ∃ q, Per p q a b ∧ Srt L q a b ∧ Rw h' v (rwK L q N) ∧ Stay (isOf v) h h' := by
  by_cases m1 : m = a + 1
  · subst m1
    exact sm_up hN rb h2 h3 Bs S hf
  by_cases m2 : b = m + 1
  · subst m2
    exact sm_dn hN rb (by omega) h3 A S hf
  have d0 : ((m : Int) - (a : Int) = 1) = False := eq_false (by omega)
  have d00 : ((b : Int) - (m : Int) = 1) = False := eq_false (by omega)
  have ln : ∀ q : Nat → Nat, (rwK L q N).length = N := fun q => rwK_len
  obtain ⟨mid, hmid⟩ : ∃ mid, mid = (a + b) / 2 := ⟨_, rfl⟩
  have hm : ((a : Int) + (b : Int)).toNat / 2 = mid := by omega
  have hm2 : ((a : Int) + (b : Int)) / 2 = (mid : Int) := by omega
  obtain ⟨z0, r0, hz0, hr0⟩ : ∃ z0 r0 : Nat, (m > mid → z0 = mid + m - b ∧ r0 = mid) ∧ (m ≤ mid → z0 = a ∧ r0 = m) := by
    by_cases e : m > mid
    · exact ⟨mid + m - b, mid, fun _ => ⟨rfl, rfl⟩, fun h => by omega⟩
    · exact ⟨a, m, fun h => absurd h e, fun _ => ⟨rfl, rfl⟩⟩
  have hzr : a ≤ z0 ∧ z0 ≤ r0 ∧ r0 ≤ m ∧ r0 ≤ mid ∧ mid + m ≤ z0 + b := by
    by_cases e : m > mid
    · obtain ⟨e1, e2⟩ := hz0 e; omega
    · obtain ⟨e1, e2⟩ := hr0 (by omega); omega
  obtain ⟨y1, y2, y3, y4, y5⟩ := hzr
  refine fn_go c58 (by intro hb; cases hb) (by simp) (by simp) fun Q hQ => ?_
  simp only [slotsF, Nat.reduceAdd]
  -- what follows the choice of both ends
  have rest : ∀ t : F, get 0 t = v → get 1 t = .i .i64 (a : Int) → get 2 t = .i .i64 (m : Int) → get 3 t = .i .i64 (b : Int) → get 4 t = .f 40 [] → get 18 t = .i .i64 (mid : Int) → get 19 t = .i .i64 ((mid + m : Nat) : Int) → get 20 t = .i .i64 (z0 : Int) → get 21 t = .i .i64 (r0 : Int) → Ok Try.prog 220 s58_79 t h (FnK [] Q) := fun t f0 f1 f2 f3 f4 f18 f19 f20 f21 => by
    have en : ((mid + m : Nat) : Int) - 1 = ((mid + m - 1 : Nat) : Int) := by omega
    repeat' (first
      | refine St.h ?_
      | simp (disch := first | omega | (simp only [lnv]; omega)) only [wlk, ↓get_put', ↓reduceIte, seval, f0, f1, f2, f3, f4, f18, f19, f20, f21]
      | (with_reducible (first | apply cd_split | apply gd_split)) <;> (intro hc; (try simp only [hcn] at hc); (try simp only [hc]); (try simp only [hcl] at hc); try omega))
    refine Ok.lp (fun k t g => ∃ z r : Nat, k = r - z ∧ z0 ≤ z ∧ z ≤ r ∧ r ≤ r0 ∧ (z = z0 ∨ klK L (p (mid + m - z)) (p (z - 1)) = false) ∧ (r = r0 ∨ klK L (p (mid + m - 1 - r)) (p r) = true) ∧ get 0 t = v ∧ get 1 t = .i .i64 (a : Int) ∧ get 2 t = .i .i64 (m : Int) ∧ get 3 t = .i .i64 (b : Int) ∧ get 4 t = .f 40 [] ∧ get 18 t = .i .i64 (mid : Int) ∧ get 19 t = .i .i64 ((mid + m : Nat) : Int) ∧ get 20 t = .i .i64 (z : Int) ∧ get 21 t = .i .i64 (r : Int) ∧ get 22 t = .i .i64 ((mid + m - 1 : Nat) : Int) ∧ Rw g v (rwK L p N) ∧ Stay (isOf v) h g) (r0 - z0) ?_ ?_
    · simp (disch := first | omega | (simp only [lnv]; omega)) only [wlk, ↓get_put', ↓reduceIte, seval, f0, f1, f2, f3, f4, f18, f19, f20, f21, en]
      refine ⟨z0, r0, by omega, by omega, by omega, by omega, .inl rfl, .inl rfl, ?_⟩
      refine ⟨?_, ?_, ?_, ?_, ?_, ?_, ?_, ?_, ?_, ?_, rb, ⟨rfl, Nat.le_refl _, fun _ _ _ => rfl⟩⟩
      all_goals first | trivial | rfl
    rintro I hI k t g ⟨z, r, rfl, hz, hzr, hr, x1, x2, f0, f1, f2, f3, f4, f18, f19, f20, f21, f22, rb, st⟩
    have hfg := st.fl hf
    have W1 := rb.ws
    by_cases hlt : z < r
    case pos =>
      have hc : ((z : Int) + (r : Int)).toNat / 2 = (z + r) / 2 := by omega
      have hc2 : ((z : Int) + (r : Int)) / 2 = (((z + r) / 2 : Nat) : Int) := by omega
      have hc3 : (((mid + m - 1 : Nat) : Int) - (((z + r) / 2 : Nat) : Int)).toNat = mid + m - 1 - (z + r) / 2 := by omega
      have ga : (rwK L p N).getD (mid + m - 1 - (z + r) / 2) default = L.getD (p (mid + m - 1 - (z + r) / 2)) default := rwK_getD (by omega)
      have gb : (rwK L p N).getD ((z + r) / 2) default = L.getD (p ((z + r) / 2)) default := rwK_getD (by omega)
      have d1 : ((z : Int) < (r : Int)) = True := eq_true (by omega)
      have l1 := ln p
      repeat' (first
        | refine St.h ?_
        | simp (disch := first | omega | (simp only [lnv]; omega)) only [wlk, ↓get_put', ↓reduceIte, seval, f0, f1, f2, f3, f4, f18, f19, f20, f21, f22, d1, hc, hc2, hc3, W1.ix, W1.la, ga, gb, Int.toNat_natCast]
        | (with_reducible (first | apply cd_split | apply gd_split)) <;> (intro hc; (try simp only [hcn] at hc); (try simp only [hc]); (try simp only [hcl] at hc); try omega))
      refine CL.stay (byKey12_ok (a := L.getD (p (mid + m - 1 - (z + r) / 2)) default) (b := L.getD (p ((z + r) / 2)) default) hfg) fun g3 s3 => ?_
      have rb3 := rb.grow s3
      have st3 := st.trans (s3.mono fun _ _ hq => hq.elim)
      cases hk : klK L (p (mid + m - 1 - (z + r) / 2)) (p ((z + r) / 2)) with
      | false =>
        have d2 := cmpW_f hk
        repeat' (first
          | refine St.h ?_
          | simp (disch := first | omega | (simp only [lnv]; omega)) only [wlk, ↓get_put', ↓reduceIte, seval, f0, f1, f2, f3, f4, f18, f19, f20, f21, f22, d2]
          | (with_reducible (first | apply cd_split | apply gd_split)) <;> (intro hc; (try simp only [hcn] at hc); (try simp only [hc]); (try simp only [hcl] at hc); try omega))
        refine lp_next hI (r - ((z + r) / 2 + 1)) (by omega) ⟨(z + r) / 2 + 1, r, rfl, by omega, by omega, by omega, .inr (by rw [Nat.add_sub_cancel, show mid + m - ((z + r) / 2 + 1) = mid + m - 1 - (z + r) / 2 by omega]; exact hk), x2, by simp (disch := first | omega | (simp only [lnv]; omega)) only [wlk, ↓get_put', ↓reduceIte, seval, f0], by simp (disch := first | omega | (simp only [lnv]; omega)) only [wlk, ↓get_put', ↓reduceIte, seval, f1], by simp (disch := first | omega | (simp only [lnv]; omega)) only [wlk, ↓get_put', ↓reduceIte, seval, f2], by simp (disch := first | omega | (simp only [lnv]; omega)) only [wlk, ↓get_put', ↓reduceIte, seval, f3], by simp (disch := first | omega | (simp only [lnv]; omega)) only [wlk, ↓get_put', ↓reduceIte, seval, f4], by simp (disch := first | omega | (simp only [lnv]; omega)) only [wlk, ↓get_put', ↓reduceIte, seval, f18], by simp (disch := first | omega | (simp only [lnv]; omega)) only [wlk, ↓get_put', ↓reduceIte, seval, f19], by simp (disch := first | omega | (simp only [lnv]; omega)) only [wlk, ↓get_put', ↓reduceIte, seval]; rfl, by simp (disch := first | omega | (simp only [lnv]; omega)) only [wlk, ↓get_put', ↓reduceIte, seval, f21], by simp (disch := first | omega | (simp only [lnv]; omega)) only [wlk, ↓get_put', ↓reduceIte, seval, f22], rb3, st3⟩
      | true =>
        have d2 := cmpW_t hk
        repeat' (first
          | refine St.h ?_
          | simp (disch := first | omega | (simp only [lnv]; omega)) only [wlk, ↓get_put', ↓reduceIte, seval, f0, f1, f2, f3, f4, f18, f19, f20, f21, f22, d2]
          | (with_reducible (first | apply cd_split | apply gd_split)) <;> (intro hc; (try simp only [hcn] at hc); (try simp only [hc]); (try simp only [hcl] at hc); try omega))
        refine lp_next hI ((z + r) / 2 - z) (by omega) ⟨z, (z + r) / 2, rfl, by omega, by omega, by omega, x1, .inr hk, by simp (disch := first | omega | (simp only [lnv]; omega)) only [wlk, ↓get_put', ↓reduceIte, seval, f0], by simp (disch := first | omega | (simp only [lnv]; omega)) only [wlk, ↓get_put', ↓reduceIte, seval, f1], by simp (disch := first | omega | (simp only [lnv]; omega)) only [wlk, ↓get_put', ↓reduceIte, seval, f2], by simp (disch := first | omega | (simp only [lnv]; omega)) only [wlk, ↓get_put', ↓reduceIte, seval, f3], by simp (disch := first | omega | (simp only [lnv]; omega)) only [wlk, ↓get_put', ↓reduceIte, seval, f4], by simp (disch := first | omega | (simp only [lnv]; omega)) only [wlk, ↓get_put', ↓reduceIte, seval, f18], by simp (disch := first | omega | (simp only [lnv]; omega)) only [wlk, ↓get_put', ↓reduceIte, seval, f19], by simp (disch := first | omega | (simp only [lnv]; omega)) only [wlk, ↓get_put', ↓reduceIte, seval, f20], by simp (disch := first | omega | (simp only [lnv]; omega)) only [wlk, ↓get_put', ↓reduceIte, seval], by simp (disch := first | omega | (simp only [lnv]; omega)) only [wlk, ↓get_put', ↓reduceIte, seval, f22], rb3, st3⟩
    obtain rfl : z = r := by omega
    have d1 : ((z : Int) < (z : Int)) = False := eq_false (by omega)
    obtain ⟨e, he⟩ : ∃ e, e = mid + m - z := ⟨_, rfl⟩
    have ee : ((mid + m : Nat) : Int) - (z : Int) = (e : Int) := by omega
    have w1 : z = a ∨ e = b ∨ ltK L (p (z - 1)) (p e) := by
      rcases x1 with h | h
      · by_cases hg : m > mid
        · have := (hz0 hg).1; right; left; omega
        · have := (hr0 (by omega)).1; left; omega
      · by_cases hza : z = a
        · exact .inl hza
        · by_cases heb : e = b
          · exact .inr (.inl heb)
          · rw [← he] at h
            exact .inr (.inr (ltK_no h fun e2 => S (z - 1) e (by omega) (by omega) (by omega) (by omega) e2))
    have w2 : e = m ∨ z = m ∨ ltK L (p (e - 1)) (p z) := by
      rcases x2 with h | h
      · by_cases hg : m > mid
        · have := (hz0 hg).2; left; omega
        · have := (hr0 (by omega)).2; right; left; omega
      · rw [show mid + m - 1 - z = e - 1 by omega] at h
        exact .inr (.inr (ltK_kl h))
    obtain ⟨H1, H2, H3, H4, H5, H6, H7⟩ := rot_half (c := mid) (s := z) (e := e) (by omega) (by omega) (by omega) (by omega) A Bs S (by omega) w1 w2
    have hper := rot_per (p := p) (a := a) (b := b) (s := z) (i := m - z) (j := e - m) (by omega) (by omega)
    generalize hq0 : rotK p z (m - z) (e - m) = q0 at *
    have fin : ∀ t : F, ∀ g1 : H, ∀ q1 : Nat → Nat, get 0 t = v → get 3 t = .i .i64 (b : Int) → get 4 t = .f 40 [] → get 18 t = .i .i64 (mid : Int) → get 24 t = .i .i64 (e : Int) → Per q0 q1 a mid → Srt L q1 a mid → Rw g1 v (rwK L q1 N) → Stay (isOf v) h g1 → Ok Try.prog 220 s58_74 t g1 (FnK [] Q) := fun t g1 q1 f0 f3 f4 f18 f24 P1 S1 R1 st1 => by
      have hf1 := st1.fl hf
      have same : ∀ k, mid ≤ k → k < b → q1 k = q0 k := fun k hk _ => P1.out k (.inr hk)
      by_cases c1 : mid < e ∧ e < b
      · have d1 : ((mid : Int) < (e : Int)) = True := eq_true (by omega)
        have d2 : ((e : Int) < (b : Int)) = True := eq_true (by omega)
        repeat' (first
          | refine St.h ?_
          | simp (disch := first | omega | (simp only [lnv]; omega)) only [wlk, ↓get_put', ↓reduceIte, seval, f0, f3, f4, f18, f24, d1, d2]
          | (with_reducible (first | apply cd_split | apply gd_split)) <;> (intro hc; (try simp only [hcn] at hc); (try simp only [hc]); (try simp only [hcl] at hc); try omega))
        refine CL.mk (ih (p := q1) (a := mid) (m := e) (b := b) (by omega) R1 c1.1 c1.2 h3 (srt_out H4 fun k k1 k2 => same k k1 (by omega)) (srt_out H5 fun k k1 k2 => same k (by omega) k2) (fun i j i1 i2 i3 i4 i5 => by
          rw [same i i1 (by omega), same j (by omega) i4] at *
          exact H6 i j i1 i2 i3 i4 i5) hf1) ?_
        rintro y g2 ⟨q2, P2, S2, R2, s2⟩
        repeat' (first
          | refine St.h ?_
          | simp (disch := first | omega | (simp only [lnv]; omega)) only [wlk, ↓get_put', ↓reduceIte, seval]
          | (with_reducible (first | apply cd_split | apply gd_split)) <;> (intro hc; (try simp only [hcn] at hc); (try simp only [hc]); (try simp only [hcl] at hc); try omega))
        subst hQ
        refine ⟨q2, ?_, srt_glue (srt_out S1 fun k k1 k2 => P2.out k (.inl k2)) S2 (crs_per2 (crs_per H7 P1) P2), R2, st1.trans s2⟩
        exact (hper.trans (P1.wide (Nat.le_refl _) (by omega))).trans (P2.wide (by omega) (Nat.le_refl _))
      · have hs : Srt L q0 mid b := by
          by_cases c2 : mid < e
          · obtain rfl : e = b := by omega
            exact H4
          · obtain rfl : e = mid := by omega
            exact H5
        have done : ∃ q, Per p q a b ∧ Srt L q a b ∧ Rw g1 v (rwK L q N) ∧ Stay (isOf v) h g1 :=
          ⟨q1, hper.trans (P1.wide (Nat.le_refl _) (by omega)), srt_glue S1 (srt_out hs same) (crs_per H7 P1), R1, st1⟩
        by_cases c2 : mid < e
        · have d1 : ((mid : Int) < (e : Int)) = True := eq_true (by omega)
          have d2 : ((e : Int) < (b : Int)) = False := eq_false (by omega)
          repeat' (first
            | refine St.h ?_
            | simp (disch := first | omega | (simp only [lnv]; omega)) only [wlk, ↓get_put', ↓reduceIte, seval, f0, f3, f4, f18, f24, d1, d2]
            | (with_reducible (first | apply cd_split | apply gd_split)) <;> (intro hc; (try simp only [hcn] at hc); (try simp only [hc]); (try simp only [hcl] at hc); try omega))
          subst hQ
          exact done
        · have d1 : ((mid : Int) < (e : Int)) = False := eq_false (by omega)
          repeat' (first
            | refine St.h ?_
            | simp (disch := first | omega | (simp only [lnv]; omega)) only [wlk, ↓get_put', ↓reduceIte, seval, f0, f3, f4, f18, f24, d1]
            | (with_reducible (first | apply cd_split | apply gd_split)) <;> (intro hc; (try simp only [hcn] at hc); (try simp only [hc]); (try simp only [hcl] at hc); try omega))
          subst hQ
          exact done
    have mid' : ∀ t : F, ∀ g1 : H, get 0 t = v → get 1 t = .i .i64 (a : Int) → get 3 t = .i .i64 (b : Int) → get 4 t = .f 40 [] → get 18 t = .i .i64 (mid : Int) → get 20 t = .i .i64 (z : Int) → get 24 t = .i .i64 (e : Int) → Rw g1 v (rwK L q0 N) → Stay (isOf v) h g1 → Ok Try.prog 220 s58_75 t g1 (FnK [] Q) := fun t g1 f0 f1 f3 f4 f18 f20 f24 R1 st1 => by
      have hf1 := st1.fl hf
      by_cases c1 : a < z ∧ z < mid
      · have d1 : ((a : Int) < (z : Int)) = True := eq_true (by omega)
        have d2 : ((z : Int) < (mid : Int)) = True := eq_true (by omega)
        repeat' (first
          | refine fin _ _ _ ?_ ?_ ?_ ?_ ?_ P1 S1 R2 (st1.trans s2)
          | refine St.h ?_
          | simp (disch := first | omega | (simp only [lnv]; omega)) only [wlk, ↓get_put', ↓reduceIte, seval, f0, f1, f3, f4, f18, f20, f24, d1, d2]
          | (with_reducible (first | apply cd_split | apply gd_split)) <;> (intro hc; (try simp only [hcn] at hc); (try simp only [hc]); (try simp only [hcl] at hc); try omega))
        refine CL.mk (ih (p := q0) (a := a) (m := z) (b := mid) (by omega) R1 c1.1 c1.2 (by omega) H1 H2 H3 hf1) ?_
        rintro y g2 ⟨q1, P1, S1, R2, s2⟩
        repeat' (first
          | refine fin _ _ q1 ?_ ?_ ?_ ?_ ?_ P1 S1 R2 (st1.trans s2)
          | refine St.h ?_
          | simp (disch := first | omega | (simp only [lnv]; omega)) only [wlk, ↓get_put', ↓reduceIte, seval, f0, f1, f3, f4, f18, f20, f24]
          | (with_reducible (first | apply cd_split | apply gd_split)) <;> (intro hc; (try simp only [hcn] at hc); (try simp only [hc]); (try simp only [hcl] at hc); try omega))
        all_goals first | (simp (disch := first | omega | (simp only [lnv]; omega)) only [wlk, ↓get_put', ↓reduceIte, seval, f0]; done) | (simp (disch := first | omega | (simp only [lnv]; omega)) only [wlk, ↓get_put', ↓reduceIte, seval, f1]; done) | (simp (disch := first | omega | (simp only [lnv]; omega)) only [wlk, ↓get_put', ↓reduceIte, seval, f3]; done) | (simp (disch := first | omega | (simp only [lnv]; omega)) only [wlk, ↓get_put', ↓reduceIte, seval, f4]; done) | (simp (disch := first | omega | (simp only [lnv]; omega)) only [wlk, ↓get_put', ↓reduceIte, seval, f18]; done) | (simp (disch := first | omega | (simp only [lnv]; omega)) only [wlk, ↓get_put', ↓reduceIte, seval, f20]; done) | (simp (disch := first | omega | (simp only [lnv]; omega)) only [wlk, ↓get_put', ↓reduceIte, seval, f24]; done) | (simp (disch := first | omega | (simp only [lnv]; omega)) only [wlk, ↓get_put', ↓reduceIte, seval]; done)
      · have hs : Srt L q0 a mid := by
          by_cases c2 : a < z
          · obtain rfl : z = mid := by omega
            exact H1
          · obtain rfl : z = a := by omega
            exact H2
        by_cases c2 : a < z
        · have d1 : ((a : Int) < (z : Int)) = True := eq_true (by omega)
          have d2 : ((z : Int) < (mid : Int)) = False := eq_false (by omega)
          repeat' (first
            | refine fin _ _ q0 ?_ ?_ ?_ ?_ ?_ Per.refl hs R1 st1
            | refine St.h ?_
            | simp (disch := first | omega | (simp only [lnv]; omega)) only [wlk, ↓get_put', ↓reduceIte, seval, f0, f1, f3, f4, f18, f20, f24, d1, d2]
            | (with_reducible (first | apply cd_split | apply gd_split)) <;> (intro hc; (try simp only [hcn] at hc); (try simp only [hc]); (try simp only [hcl] at hc); try omega))
          all_goals first | (simp (disch := first | omega | (simp only [lnv]; omega)) only [wlk, ↓get_put', ↓reduceIte, seval, f0]; done) | (simp (disch := first | omega | (simp only [lnv]; omega)) only [wlk, ↓get_put', ↓reduceIte, seval, f1]; done) | (simp (disch := first | omega | (simp only [lnv]; omega)) only [wlk, ↓get_put', ↓reduceIte, seval, f3]; done) | (simp (disch := first | omega | (simp only [lnv]; omega)) only [wlk, ↓get_put', ↓reduceIte, seval, f4]; done) | (simp (disch := first | omega | (simp only [lnv]; omega)) only [wlk, ↓get_put', ↓reduceIte, seval, f18]; done) | (simp (disch := first | omega | (simp only [lnv]; omega)) only [wlk, ↓get_put', ↓reduceIte, seval, f20]; done) | (simp (disch := first | omega | (simp only [lnv]; omega)) only [wlk, ↓get_put', ↓reduceIte, seval, f24]; done) | (simp (disch := first | omega | (simp only [lnv]; omega)) only [wlk, ↓get_put', ↓reduceIte, seval]; done)
        · have d1 : ((a : Int) < (z : Int)) = False := eq_false (by omega)
          repeat' (first
            | refine fin _ _ q0 ?_ ?_ ?_ ?_ ?_ Per.refl hs R1 st1
            | refine St.h ?_
            | simp (disch := first | omega | (simp only [lnv]; omega)) only [wlk, ↓get_put', ↓reduceIte, seval, f0, f1, f3, f4, f18, f20, f24, d1]
            | (with_reducible (first | apply cd_split | apply gd_split)) <;> (intro hc; (try simp only [hcn] at hc); (try simp only [hc]); (try simp only [hcl] at hc); try omega))
          all_goals first | (simp (disch := first | omega | (simp only [lnv]; omega)) only [wlk, ↓get_put', ↓reduceIte, seval, f0]; done) | (simp (disch := first | omega | (simp only [lnv]; omega)) only [wlk, ↓get_put', ↓reduceIte, seval, f1]; done) | (simp (disch := first | omega | (simp only [lnv]; omega)) only [wlk, ↓get_put', ↓reduceIte, seval, f3]; done) | (simp (disch := first | omega | (simp only [lnv]; omega)) only [wlk, ↓get_put', ↓reduceIte, seval, f4]; done) | (simp (disch := first | omega | (simp only [lnv]; omega)) only [wlk, ↓get_put', ↓reduceIte, seval, f18]; done) | (simp (disch := first | omega | (simp only [lnv]; omega)) only [wlk, ↓get_put', ↓reduceIte, seval, f20]; done) | (simp (disch := first | omega | (simp only [lnv]; omega)) only [wlk, ↓get_put', ↓reduceIte, seval, f24]; done) | (simp (disch := first | omega | (simp only [lnv]; omega)) only [wlk, ↓get_put', ↓reduceIte, seval]; done)
    by_cases c1 : z < m ∧ m < e
    · have d2 : ((z : Int) < (m : Int)) = True := eq_true (by omega)
      have d3 : ((m : Int) < (e : Int)) = True := eq_true (by omega)
      repeat' (first
        | refine St.h ?_
        | simp (disch := first | omega | (simp only [lnv]; omega)) only [wlk, ↓get_put', ↓reduceIte, seval, f0, f1, f2, f3, f4, f18, f19, f20, f21, f22, d1, d2, d3, ee]
        | (with_reducible (first | apply cd_split | apply gd_split)) <;> (intro hc; (try simp only [hcn] at hc); (try simp only [hc]); (try simp only [hcl] at hc); try omega))
      refine CL.mk (rot_ok (p := p) (a := z) (m := m) (b := e) rb hN c1.1 c1.2 (by omega) hfg) ?_
      rintro y g2 ⟨R2, s2⟩
      rw [hq0] at R2
      repeat' (first
        | refine mid' _ _ ?_ ?_ ?_ ?_ ?_ ?_ ?_ R2 (st.trans s2)
        | refine St.h ?_
        | simp (disch := first | omega | (simp only [lnv]; omega)) only [wlk, ↓get_put', ↓reduceIte, seval, f0, f1, f2, f3, f4, f18, f19, f20, f21, f22]
        | (with_reducible (first | apply cd_split | apply gd_split)) <;> (intro hc; (try simp only [hcn] at hc); (try simp only [hc]); (try simp only [hcl] at hc); try omega))
      all_goals first | (simp (disch := first | omega | (simp only [lnv]; omega)) only [wlk, ↓get_put', ↓reduceIte, seval, f0]; done) | (simp (disch := first | omega | (simp only [lnv]; omega)) only [wlk, ↓get_put', ↓reduceIte, seval, f1]; done) | (simp (disch := first | omega | (simp only [lnv]; omega)) only [wlk, ↓get_put', ↓reduceIte, seval, f3]; done) | (simp (disch := first | omega | (simp only [lnv]; omega)) only [wlk, ↓get_put', ↓reduceIte, seval, f4]; done) | (simp (disch := first | omega | (simp only [lnv]; omega)) only [wlk, ↓get_put', ↓reduceIte, seval, f18]; done) | (simp (disch := first | omega | (simp only [lnv]; omega)) only [wlk, ↓get_put', ↓reduceIte, seval, f20]; done) | (simp (disch := first | omega | (simp only [lnv]; omega)) only [wlk, ↓get_put', ↓reduceIte, seval, f24]; done) | (simp (disch := first | omega | (simp only [lnv]; omega)) only [wlk, ↓get_put', ↓reduceIte, seval]; done)
    · have hq : q0 = p := by
        rw [← hq0]
        by_cases c2 : z < m
        · rw [show e - m = 0 by omega, rot_n0]
        · rw [show m - z = 0 by omega, rot_0n]
      rw [hq] at mid'
      by_cases c2 : z < m
      · have d2 : ((z : Int) < (m : Int)) = True := eq_true (by omega)
        have d3 : ((m : Int) < (e : Int)) = False := eq_false (by omega)
        repeat' (first
          | refine mid' _ _ ?_ ?_ ?_ ?_ ?_ ?_ ?_ rb st
          | refine St.h ?_
          | simp (disch := first | omega | (simp only [lnv]; omega)) only [wlk, ↓get_put', ↓reduceIte, seval, f0, f1, f2, f3, f4, f18, f19, f20, f21, f22, d1, d2, d3, ee]
          | (with_reducible (first | apply cd_split | apply gd_split)) <;> (intro hc; (try simp only [hcn] at hc); (try simp only [hc]); (try simp only [hcl] at hc); try omega))
        all_goals first | (simp (disch := first | omega | (simp only [lnv]; omega)) only [wlk, ↓get_put', ↓reduceIte, seval, f0]; done) | (simp (disch := first | omega | (simp only [lnv]; omega)) only [wlk, ↓get_put', ↓reduceIte, seval, f1]; done) | (simp (disch := first | omega | (simp only [lnv]; omega)) only [wlk, ↓get_put', ↓reduceIte, seval, f3]; done) | (simp (disch := first | omega | (simp only [lnv]; omega)) only [wlk, ↓get_put', ↓reduceIte, seval, f4]; done) | (simp (disch := first | omega | (simp only [lnv]; omega)) only [wlk, ↓get_put', ↓reduceIte, seval, f18]; done) | (simp (disch := first | omega | (simp only [lnv]; omega)) only [wlk, ↓get_put', ↓reduceIte, seval, f20]; done) | (simp (disch := first | omega | (simp only [lnv]; omega)) only [wlk, ↓get_put', ↓reduceIte, seval, f24]; done) | (simp (disch := first | omega | (simp only [lnv]; omega)) only [wlk, ↓get_put', ↓reduceIte, seval]; done)
      · have d2 : ((z : Int) < (m : Int)) = False := eq_false (by omega)
        repeat' (first
          | refine mid' _ _ ?_ ?_ ?_ ?_ ?_ ?_ ?_ rb st
          | refine St.h ?_
          | simp (disch := first | omega | (simp only [lnv]; omega)) only [wlk, ↓get_put', ↓reduceIte, seval, f0, f1, f2, f3, f4, f18, f19, f20, f21, f22, d1, d2, ee]
          | (with_reducible (first | apply cd_split | apply gd_split)) <;> (intro hc; (try simp only [hcn] at hc); (try simp only [hc]); (try simp only [hcl] at hc); try omega))
        all_goals first | (simp (disch := first | omega | (simp only [lnv]; omega)) only [wlk, ↓get_put', ↓reduceIte, seval, f0]; done) | (simp (disch := first | omega | (simp only [lnv]; omega)) only [wlk, ↓get_put', ↓reduceIte, seval, f1]; done) | (simp (disch := first | omega | (simp only [lnv]; omega)) only [wlk, ↓get_put', ↓reduceIte, seval, f3]; done) | (simp (disch := first | omega | (simp only [lnv]; omega)) only [wlk, ↓get_put', ↓reduceIte, seval, f4]; done) | (simp (disch := first | omega | (simp only [lnv]; omega)) only [wlk, ↓get_put', ↓reduceIte, seval, f18]; done) | (simp (disch := first | omega | (simp only [lnv]; omega)) only [wlk, ↓get_put', ↓reduceIte, seval, f20]; done) | (simp (disch := first | omega | (simp only [lnv]; omega)) only [wlk, ↓get_put', ↓reduceIte, seval, f24]; done) | (simp (disch := first | omega | (simp only [lnv]; omega)) only [wlk, ↓get_put', ↓reduceIte, seval]; done)
  by_cases hg : mid < m
  · obtain ⟨e1, e2⟩ := hz0 hg
    have d1 : ((mid : Int) < (m : Int)) = True := eq_true (by omega)
    have e3 : (mid : Int) + (m : Int) - (b : Int) = (z0 : Int) := by omega
    repeat' (first
      | refine rest _ ?_ ?_ ?_ ?_ ?_ ?_ ?_ ?_ ?_
      | refine St.h ?_
      | simp (disch := first | omega | (simp only [lnv]; omega)) only [wlk, ↓get_put', ↓reduceIte, seval, d0, d00, hm, hm2, d1, e3, Int.toNat_natCast]
      | (with_reducible (first | apply cd_split | apply gd_split)) <;> (intro hc; (try simp only [hcn] at hc); (try simp only [hc]); (try simp only [hcl] at hc); try omega))
    all_goals first
      | (simp (disch := first | omega | (simp only [lnv]; omega)) only [wlk, ↓get_put', ↓reduceIte, seval]; done)
      | (simp (disch := first | omega | (simp only [lnv]; omega)) only [wlk, ↓get_put', ↓reduceIte, seval, e3]; done)
      | rfl
      | rw [e1]
      | rw [e2]
      | (simp (disch := first | omega | (simp only [lnv]; omega)) only [wlk, ↓get_put', ↓reduceIte, seval]; rfl)
  · obtain ⟨e1, e2⟩ := hr0 (by omega)
    have d1 : ((mid : Int) < (m : Int)) = False := eq_false (by omega)
    repeat' (first
      | refine rest _ ?_ ?_ ?_ ?_ ?_ ?_ ?_ ?_ ?_
      | refine St.h ?_
      | simp (disch := first | omega | (simp only [lnv]; omega)) only [wlk, ↓get_put', ↓reduceIte, seval, d0, d00, hm, hm2, d1, Int.toNat_natCast]
      | (with_reducible (first | apply cd_split | apply gd_split)) <;> (intro hc; (try simp only [hcn] at hc); (try simp only [hc]); (try simp only [hcl] at hc); try omega))
    all_goals first
      | (simp (disch := first | omega | (simp only [lnv]; omega)) only [wlk, ↓get_put', ↓reduceIte, seval]; done)
      | rfl
      | rw [e1]
      | rw [e2]
      | (simp (disch := first | omega | (simp only [lnv]; omega)) only [wlk, ↓get_put', ↓reduceIte, seval]; rfl)
theorem sm_all (hN : N ≤ 1000) : ∀ K, SmOk L N K
  | 0 => fun hK => absurd hK (Nat.not_lt_zero _)
  | K + 1 => fun hK rb h1 h2 h3 A Bs S hf => sm_step hN (sm_all hN K) hK rb h1 h2 h3 A Bs S hf
end
end Go.Proofs.Ythncpgkpkdolfaa

set_option linter.all false
namespace Go.Ev
open Go
/-- is the one at place i the last of its key -/
def lasK (M : List Wri) (i : Nat) : Prop := i + 1 = M.length ∨ (M.getD (i + 1) default).key ≠ (M.getD i default).key
instance (M : List Wri) (i : Nat) : Decidable (lasK M i) := by unfold lasK; infer_instance
def kpK (M : List Wri) : Nat → List Wri
  | 0 => []
  | i + 1 => if lasK M i then kpK M i ++ [M.getD i default] else kpK M i
theorem kpK_len (M : List Wri) : ∀ i, (kpK M i).length ≤ i
  | 0 => Nat.le_refl _
  | i + 1 => by
    have := kpK_len M i
    unfold kpK; split
    · rw [List.length_append]; simp; omega
    · omega
theorem kpK_mem {M : List Wri} {m : Wri} : ∀ i, m ∈ kpK M i ↔ ∃ j, j < i ∧ lasK M j ∧ m = M.getD j default
  | 0 => ⟨(fun h => by cases h), fun ⟨j, h, _⟩ => absurd h (Nat.not_lt_zero _)⟩
  | i + 1 => by
    have ih := kpK_mem (M := M) (m := m) i
    unfold kpK
    split
    · rename_i hl
      rw [List.mem_append, ih, List.mem_singleton]
      constructor
      · rintro (⟨j, h1, h2, h3⟩ | h)
        · exact ⟨j, by omega, h2, h3⟩
        · exact ⟨i, by omega, hl, h⟩
      · rintro ⟨j, h1, h2, h3⟩
        by_cases e : j = i
        · right; rw [← e]; exact h3
        · exact .inl ⟨j, by omega, h2, h3⟩
    · rename_i hl
      rw [ih]
      constructor
      · rintro ⟨j, h1, h2, h3⟩; exact ⟨j, by omega, h2, h3⟩
      · rintro ⟨j, h1, h2, h3⟩
        by_cases e : j = i
        · rw [e] at h2; exact absurd h2 hl
        · exact ⟨j, by omega, h2, h3⟩
/-- keys don't fall -/
def Wk (M : List Wri) : Prop := ∀ i j, i < j → j < M.length → Op.bytesLess (M.getD i default).key (M.getD j default).key = true ∨ (M.getD i default).key = (M.getD j default).key
theorem kpK_lt {M : List Wri} (h : Wk M) {i j : Nat} (hl : lasK M i) (hij : i < j) (hj : j < M.length) : Op.bytesLess (M.getD i default).key (M.getD j default).key = true := by
  have hne := hl.resolve_left (by omega)
  have h1 := (h i (i + 1) (by omega) (by omega)).resolve_right fun e => hne e.symm
  by_cases e : i + 1 = j
  · rw [← e]; exact h1
  · rcases h (i + 1) j (by omega) hj with h2 | h2
    · exact bl_trans h1 h2
    · rw [← h2]; exact h1
theorem kpK_up {M : List Wri} (h : Wk M) : ∀ i, i ≤ M.length → Up (kpK M i)
  | 0, _ => List.Pairwise.nil
  | i + 1, hi => by
    have ih := kpK_up h i (by omega)
    unfold kpK; split
    · rename_i hl
      refine List.pairwise_append.2 ⟨ih, List.pairwise_singleton .., fun a ha b hb => ?_⟩
      rw [List.mem_singleton] at hb
      subst hb
      obtain ⟨j, h1, h2, rfl⟩ := (kpK_mem i).1 ha
      exact kpK_lt h h2 h1 (by omega)
    · exact ih
theorem neatB_mem {L : List Wri} {m : Wri} : ∀ {j : Nat}, j ≤ L.length → (m ∈ neatB (L.take j) ↔ ∃ i, i < j ∧ L.getD i default = m ∧ ∀ k, i < k → k < j → (L.getD k default).key ≠ m.key)
  | 0, _ => ⟨(fun h => by simp [neatB] at h), fun ⟨i, h, _⟩ => absurd h (Nat.not_lt_zero _)⟩
  | j + 1, hj => by
    rw [neatB_step (by omega), insW_mem (neatB_up _), neatB_mem (by omega)]
    constructor
    · rintro (e | ⟨⟨i, h1, h2, h3⟩, h4⟩)
      · exact ⟨j, by omega, e.symm, fun k h1 h2 => by omega⟩
      · refine ⟨i, by omega, h2, fun k k1 k2 => ?_⟩
        by_cases e : k = j
        · rw [e]; exact fun h => h4 h.symm
        · exact h3 k k1 (by omega)
    · rintro ⟨i, h1, h2, h3⟩
      by_cases e : i = j
      · left; rw [← e]; exact h2.symm
      · refine .inr ⟨⟨i, by omega, h2, fun k k1 k2 => h3 k k1 (by omega)⟩, fun h => h3 j (by omega) (by omega) h.symm⟩
theorem kpK_neat {L : List Wri} {q : Nat → Nat} (hm : ∀ x, (∃ k, k < L.length ∧ q k = x) ↔ x < L.length) (hs : Srt L q 0 L.length) : kpK (rwK L q L.length) L.length = neatB L := by
  have ln : (rwK L q L.length).length = L.length := rwK_len
  have gt : ∀ i, i < L.length → (rwK L q L.length).getD i default = L.getD (q i) default := fun i hi => rwK_getD hi
  have hw : Wk (rwK L q L.length) := fun i j hij hj => by
    rw [ln] at hj
    rw [gt i (by omega), gt j hj]
    rcases hs i j (Nat.zero_le _) hij hj with h | ⟨h, _⟩
    · exact .inl h
    · exact .inr h
  refine up_ext (kpK_up hw _ (by rw [ln]; exact Nat.le_refl _)) (neatB_up L) fun m => ?_
  have hb := neatB_mem (L := L) (m := m) (j := L.length) (Nat.le_refl _)
  rw [List.take_length] at hb
  rw [kpK_mem, hb]
  constructor
  · rintro ⟨j, hj, hl, rfl⟩
    refine ⟨q j, (hm _).1 ⟨j, hj, rfl⟩, (gt j hj).symm, fun k hk hk2 he => ?_⟩
    obtain ⟨j2, h1, rfl⟩ := (hm k).2 hk2
    rw [← gt j2 h1] at he
    rcases Nat.lt_trichotomy j j2 with h | h | h
    · have h5 := kpK_lt hw hl h (by rw [ln]; exact h1)
      exact bl_ne h5 he.symm
    · rw [h] at hk; omega
    · rcases hs j2 j (Nat.zero_le _) h hj with h5 | ⟨_, h5⟩
      · unfold klK at h5
        rw [← gt j2 h1, ← gt j hj] at h5
        exact bl_ne h5 he
      · omega
  · rintro ⟨i, hi, rfl, h3⟩
    obtain ⟨j, hj, rfl⟩ := (hm i).2 hi
    refine ⟨j, hj, ?_, (gt j hj).symm⟩
    by_cases e : j + 1 = L.length
    · exact .inl (by rw [ln]; exact e)
    · right
      rw [gt j hj, gt (j + 1) (by omega)]
      intro he
      rcases hs j (j + 1) (Nat.zero_le _) (by omega) (by omega) with h5 | ⟨_, h5⟩
      · exact bl_ne h5 he.symm
      · exact h3 (q (j + 1)) h5 ((hm _).1 ⟨j + 1, by omega, rfl⟩) he
end Go.Ev

set_option maxRecDepth 1000000
set_option linter.all false
namespace Go.Proofs.Ythncpgkpkdolfaa
open Go Go.Ev
noncomputable abbrev s15_0 : CC := (CC.seq (CC.region [(wB 2 (doMove (O.c (V.b Bool.false))))]) CC.ret)
noncomputable abbrev s15_1 : CC := (CC.cond (tm 7) s15_0 CC.skip)
noncomputable abbrev s15_2 : CC := (CC.seq (CC.region [(wB 5 (doMove (tm 0))), (wB 6 (doLen (tm 5))), (wB 7 (bin2 fGtr (tm 6) (oN 8)))]) s15_1)
noncomputable abbrev s15_3 : CC := (CC.cond (tm 11) CC.skip (CC.exit 0))
noncomputable abbrev s15_4 : CC := (CC.seq (CC.region [(wB 2 (doMove (O.c (V.b Bool.false))))]) CC.ret)
noncomputable abbrev s15_5 : CC := (CC.cond (tm 17) s15_4 CC.skip)
noncomputable abbrev s15_6 : CC := (CC.seq (CC.region [(wB 15 (doLoadA 3 (tm 4))), (wB 16 (doCall 36 [(tm 15)])), (wB 17 (doNot (tm 16)))]) s15_5)
noncomputable abbrev s15_7 : CC := (CC.seq (CC.region [(wB 2 (doMove (O.c (V.b Bool.false))))]) CC.ret)
noncomputable abbrev s15_8 : CC := (CC.cond (tm 30) s15_7 CC.skip)
noncomputable abbrev s15_9 : CC := (CC.seq (CC.draws [(uB 18 (doMove (tm 3))), (uB 19 (bin2 fGtr (tm 18) (oN 0))), (uB 20 (doMove (tm 19))), (uG 20 true 21 (doMove (tm 0))), (uG 20 true 22 (doMove (tm 3))), (uG 20 true 23 (bin2 fSub (tm 22) (oN 1))), (uG 20 true 24 (doIndexAddr 3 (tm 21) (tm 23))), (uG 20 true 25 (doFieldAddr 0 (tm 24))), (uG 20 true 26 (doLoad (tm 25))), (uG 20 true 27 (doFieldAddr 0 (tm 4))), (uG 20 true 28 (doLoad (tm 27))), (uG 20 true 29 (doSCmp (fun a b c d => !ltS a b c d) (tm 26) (tm 28))), (uB 30 (doPick (tm 20) (tm 29) (O.c (V.b Bool.false))))]) s15_8)
noncomputable abbrev s15_10 : CC := (CC.seq s15_6 s15_9)
noncomputable abbrev s15_11 : CC := (CC.seq (CC.region [(wB 12 (doMove (tm 10))), (wB 13 (doIndexAddr 3 (tm 8) (tm 10))), (wB 14 (doLoadA 3 (tm 13))), (wB 4 (doAlloc 49 [(V.s 0 0), (V.b Bool.false), (V.s 0 0)])), (wB 3 (doMove (tm 12))), (CO.mk G.none D.none Bool.true (CR.mk (doStore 3 (tm 4) (tm 14))))]) s15_10)
noncomputable abbrev s15_12 : CC := (CC.block 1 s15_11)
noncomputable abbrev s15_13 : CC := (CC.region [(wB 31 (bin2 fAdd (tm 10) (oN 1))), (wB 10 (doMove (tm 31)))])
noncomputable abbrev s15_14 : CC := (CC.seq s15_12 s15_13)
noncomputable abbrev s15_15 : CC := (CC.seq s15_3 s15_14)
noncomputable abbrev l15_0 : CC := (CC.seq (CC.region [(wB 11 (bin2 fLss (tm 10) (tm 9)))]) s15_15)
noncomputable abbrev s15_16 : CC := (CC.loop l15_0)
noncomputable abbrev s15_17 : CC := (CC.block 0 s15_16)
noncomputable abbrev s15_18 : CC := (CC.seq (CC.region [(wB 8 (doMove (tm 0))), (wB 9 (doLen (tm 8))), (wB 10 (doMove (oN 0)))]) s15_17)
noncomputable abbrev s15_19 : CC := (CC.seq (CC.region [(wB 2 (doMove (O.c (V.b Bool.true))))]) CC.ret)
noncomputable abbrev s15_20 : CC := (CC.seq s15_18 s15_19)
noncomputable abbrev s15_21 : CC := (CC.seq s15_2 s15_20)
noncomputable abbrev b15 : CC := (CC.seq (CC.region [(wB 2 (doMove (O.c (V.b Bool.false))))]) s15_21)
theorem c15 : compFn Try.prog 15 = ⟨32, b15, [(Rs.tmp (slOf 2))]⟩ := by kernel_rfl
noncomputable abbrev s18_0 : CC := (CC.cond (tm 14) CC.skip (CC.exit 0))
noncomputable abbrev s18_1 : CC := (CC.region [(wB 34 (doMove (tm 4))), (wB 35 (doLoadA 3 (tm 6))), (wB 36 (doBuildSlice 49 1 [(V.s 0 0), (V.b Bool.false), (V.s 0 0)] [(Pt.mk 0 3 (tm 35))])), (wB 37 (doAppend 49 3 (tm 34) (tm 36))), (wB 4 (doMove (tm 37)))])
noncomputable abbrev s18_2 : CC := (CC.cond (tm 33) s18_1 CC.skip)
noncomputable abbrev s18_3 : CC := (CC.seq (CC.draws [(uB 18 (doMove (tm 5))), (uB 19 (bin2 fAdd (tm 18) (oN 1))), (uB 20 (doMove (tm 3))), (uB 21 (doLen (tm 20))), (uB 22 (bin2 fEql (tm 19) (tm 21))), (uB 23 (doMove (tm 22))), (uG 23 false 24 (doMove (tm 3))), (uG 23 false 25 (doMove (tm 5))), (uG 23 false 26 (bin2 fAdd (tm 25) (oN 1))), (uG 23 false 27 (doIndexAddr 3 (tm 24) (tm 26))), (uG 23 false 28 (doFieldAddr 0 (tm 27))), (uG 23 false 29 (doLoad (tm 28))), (uG 23 false 30 (doFieldAddr 0 (tm 6))), (uG 23 false 31 (doLoad (tm 30))), (uG 23 false 32 (doSCmp (fun a b c d => !eqS a b c d) (tm 29) (tm 31))), (uB 33 (doPick (tm 23) (O.c (V.b Bool.true)) (tm 32)))]) s18_2)
noncomputable abbrev s18_4 : CC := (CC.seq (CC.region [(wB 15 (doMove (tm 13))), (wB 16 (doIndexAddr 3 (tm 11) (tm 13))), (wB 17 (doLoadA 3 (tm 16))), (wB 6 (doAlloc 49 [(V.s 0 0), (V.b Bool.false), (V.s 0 0)])), (wB 5 (doMove (tm 15))), (CO.mk G.none D.none Bool.true (CR.mk (doStore 3 (tm 6) (tm 17))))]) s18_3)
noncomputable abbrev s18_5 : CC := (CC.block 1 s18_4)
noncomputable abbrev s18_6 : CC := (CC.region [(wB 38 (bin2 fAdd (tm 13) (oN 1))), (wB 13 (doMove (tm 38)))])
noncomputable abbrev s18_7 : CC := (CC.seq s18_5 s18_6)
noncomputable abbrev s18_8 : CC := (CC.seq s18_0 s18_7)
noncomputable abbrev l18_0 : CC := (CC.seq (CC.region [(wB 14 (bin2 fLss (tm 13) (tm 12)))]) s18_8)
noncomputable abbrev s18_9 : CC := (CC.loop l18_0)
noncomputable abbrev s18_10 : CC := (CC.block 0 s18_9)
noncomputable abbrev s18_11 : CC := (CC.seq (CC.region [(wB 11 (doMove (tm 3))), (wB 12 (doLen (tm 11))), (wB 13 (doMove (oN 0)))]) s18_10)
noncomputable abbrev s18_12 : CC := (CC.seq (CC.region [(wB 39 (doMove (tm 4))), (wB 2 (doMove (tm 39)))]) CC.ret)
noncomputable abbrev s18_13 : CC := (CC.seq s18_11 s18_12)
noncomputable abbrev s18_14 : CC := (CC.seq (CC.region [(wB 4 (doMove (O.c V.l0)))]) s18_13)
noncomputable abbrev s18_15 : CC := (CC.seq (CC.region [(wB 9 (doMove (tm 3))), (wB 10 (doCall 39 [(tm 9), (O.c (V.f 40 []))]))]) s18_14)
noncomputable abbrev s18_16 : CC := (CC.seq (CC.region [(wB 7 (doMove (tm 0))), (wB 8 (doCall 38 [(tm 7)])), (wB 3 (doMove (tm 8)))]) s18_15)
noncomputable abbrev b18 : CC := (CC.seq (CC.region [(wB 2 (doMove (O.c V.l0)))]) s18_16)
theorem c18 : compFn Try.prog 18 = ⟨40, b18, [(Rs.tmp (slOf 2))]⟩ := by kernel_rfl
noncomputable abbrev s9_0 : CC := (CC.seq (CC.region [(wB 4 (doMove (O.c (V.s 0 0)))), (wB 5 (doMove (oN 10)))]) CC.ret)
noncomputable abbrev s9_1 : CC := (CC.cond (tm 19) s9_0 CC.skip)
noncomputable abbrev s9_2 : CC := (CC.seq (CC.region [(wB 9 (doMove (tm 1))), (wB 10 (doCall 15 [(tm 9)])), (wB 11 (doNot (tm 10))), (wB 12 (doMove (tm 11))), (wG 12 false 13 (doMove (tm 0))), (wG 12 false 14 (bin2 fLss (tm 13) (oN 1))), (wB 15 (doPick (tm 12) (O.c (V.b Bool.true)) (tm 14))), (wB 16 (doMove (tm 15))), (wG 16 false 17 (doMove (tm 0))), (wG 16 false 18 (bin2 fGtr (tm 17) (oN 1000000))), (wB 19 (doPick (tm 16) (O.c (V.b Bool.true)) (tm 18)))]) s9_1)
noncomputable abbrev s9_3 : CC := (CC.cond (tm 30) CC.skip (CC.exit 0))
noncomputable abbrev s9_4 : CC := (CC.region [(wB 33 (doLoadA 3 (tm 8))), (wB 34 (doCall 25 [(tm 33)])), (wB 35 (doCall 23 [(tm 6), (tm 34)]))])
noncomputable abbrev s9_5 : CC := (CC.seq (CC.region [(wB 31 (doIndexAddr 3 (tm 27) (tm 29))), (wB 32 (doLoadA 3 (tm 31))), (wB 8 (doAlloc 49 [(V.s 0 0), (V.b Bool.false), (V.s 0 0)])), (CO.mk G.none D.none Bool.true (CR.mk (doStore 3 (tm 8) (tm 32))))]) s9_4)
noncomputable abbrev s9_6 : CC := (CC.block 1 s9_5)
noncomputable abbrev s9_7 : CC := (CC.region [(wB 36 (bin2 fAdd (tm 29) (oN 1))), (wB 29 (doMove (tm 36)))])
noncomputable abbrev s9_8 : CC := (CC.seq s9_6 s9_7)
noncomputable abbrev s9_9 : CC := (CC.seq s9_3 s9_8)
noncomputable abbrev l9_0 : CC := (CC.seq (CC.region [(wB 30 (bin2 fLss (tm 29) (tm 28)))]) s9_9)
noncomputable abbrev s9_10 : CC := (CC.loop l9_0)
noncomputable abbrev s9_11 : CC := (CC.block 0 s9_10)
noncomputable abbrev s9_12 : CC := (CC.seq (CC.region [(wB 27 (doMove (tm 1))), (wB 28 (doLen (tm 27))), (wB 29 (doMove (oN 0)))]) s9_11)
noncomputable abbrev s9_13 : CC := (CC.seq (CC.region [(wB 37 (doCall 27 [(tm 6)])), (wB 38 (doCall 26 [(tm 37)])), (wB 4 (doMove (tm 38))), (wB 5 (doMove (oN 0)))]) CC.ret)
noncomputable abbrev s9_14 : CC := (CC.seq s9_12 s9_13)
noncomputable abbrev s9_15 : CC := (CC.seq (CC.region [(wB 23 (doMove (tm 1))), (wB 24 (doLen (tm 23))), (wB 25 (doCall 24 [(tm 24)])), (wB 26 (doCall 23 [(tm 6), (tm 25)]))]) s9_14)
noncomputable abbrev s9_16 : CC := (CC.seq (CC.region [(wB 20 (doMove (tm 0))), (wB 21 (doCall 24 [(tm 20)])), (wB 22 (doCall 23 [(tm 6), (tm 21)]))]) s9_15)
noncomputable abbrev s9_17 : CC := (CC.seq (CC.region [(wB 6 (doAlloc 54 [V.p0, V.l0]))]) s9_16)
noncomputable abbrev s9_18 : CC := (CC.seq s9_2 s9_17)
noncomputable abbrev b9 : CC := (CC.seq (CC.region [(wB 4 (doMove (O.c (V.s 0 0)))), (wB 5 (doMove (oN 0)))]) s9_18)
theorem c9 : compFn Try.prog 9 = ⟨39, b9, [(Rs.tmp (slOf 4)), (Rs.tmp (slOf 5))]⟩ := by kernel_rfl
noncomputable abbrev s11_0 : CC := (CC.seq (CC.region [(wB 21 (doMove (tm 8))), (wB 2 (doMove (oN 0))), (wB 3 (doMove (O.c V.l0))), (wB 4 (doMove (oN 0))), (wB 5 (doMove (tm 21)))]) CC.ret)
noncomputable abbrev s11_1 : CC := (CC.cond (tm 20) s11_0 CC.skip)
noncomputable abbrev s11_2 : CC := (CC.seq (CC.region [(wB 19 (doMove (tm 8))), (wB 20 (bin2 fNeq (tm 19) (oN 0)))]) s11_1)
noncomputable abbrev s11_3 : CC := (CC.seq (CC.region [(wB 2 (doMove (oN 0))), (wB 3 (doMove (O.c V.l0))), (wB 4 (doMove (oN 0))), (wB 5 (doMove (oN 10)))]) CC.ret)
noncomputable abbrev s11_4 : CC := (CC.cond (tm 37) s11_3 CC.skip)
noncomputable abbrev s11_5 : CC := (CC.seq (CC.region [(wB 33 (doMove (tm 11))), (wB 34 (doMove (tm 0))), (wB 35 (doMove (tm 7))), (wB 36 (doSSlice (tm 34) none (some (tm 35)))), (wB 37 (doSCmp (fun a b c d => !eqS a b c d) (tm 33) (tm 36)))]) s11_4)
noncomputable abbrev s11_6 : CC := (CC.seq (CC.region [(wB 28 (doMove (tm 9))), (wB 29 (doMove (tm 10))), (wB 30 (doCall 9 [(tm 28), (tm 29)])), (wB 27 (doMove (tm 30))), (wB 31 (doExtract 0 (tm 27))), (wB 32 (doExtract 1 (tm 27))), (wB 11 (doMove (tm 31))), (wB 12 (doMove (tm 32)))]) s11_5)
noncomputable abbrev s11_7 : CC := (CC.seq (CC.region [(wB 38 (doMove (tm 9))), (wB 39 (doMove (tm 10))), (wB 40 (doMove (tm 7))), (wB 2 (doMove (tm 38))), (wB 3 (doMove (tm 39))), (wB 4 (doMove (tm 40))), (wB 5 (doMove (oN 0)))]) CC.ret)
noncomputable abbrev s11_8 : CC := (CC.seq s11_6 s11_7)
noncomputable abbrev s11_9 : CC := (CC.seq (CC.region [(wB 23 (doMove (tm 6))), (wB 24 (doCall 32 [(tm 23)])), (wB 22 (doMove (tm 24))), (wB 25 (doExtract 0 (tm 22))), (wB 26 (doExtract 1 (tm 22))), (wB 9 (doMove (tm 25))), (wB 10 (doMove (tm 26)))]) s11_8)
noncomputable abbrev s11_10 : CC := (CC.seq s11_2 s11_9)
noncomputable abbrev s11_11 : CC := (CC.seq (CC.region [(wB 14 (doMove (tm 0))), (wB 15 (doCall 31 [(tm 14)])), (wB 13 (doMove (tm 15))), (wB 16 (doExtract 0 (tm 13))), (wB 17 (doExtract 1 (tm 13))), (wB 18 (doExtract 2 (tm 13))), (wB 6 (doMove (tm 16))), (wB 7 (doMove (tm 17))), (wB 8 (doMove (tm 18)))]) s11_10)
noncomputable abbrev b11 : CC := (CC.seq (CC.region [(wB 2 (doMove (oN 0))), (wB 3 (doMove (O.c V.l0))), (wB 4 (doMove (oN 0))), (wB 5 (doMove (oN 0)))]) s11_11)
theorem c11 : compFn Try.prog 11 = ⟨41, b11, [(Rs.tmp (slOf 2)), (Rs.tmp (slOf 3)), (Rs.tmp (slOf 4)), (Rs.tmp (slOf 5))]⟩ := by kernel_rfl
noncomputable abbrev s21_0 : CC := (CC.seq (CC.region [(wB 4 (doMove (O.c V.l0)))]) CC.ret)
noncomputable abbrev s21_1 : CC := (CC.cond (tm 10) s21_0 CC.skip)
noncomputable abbrev s21_2 : CC := (CC.seq (CC.region [(wB 8 (doMove (tm 1))), (wB 9 (doCall 15 [(tm 8)])), (wB 10 (doNot (tm 9)))]) s21_1)
noncomputable abbrev s21_3 : CC := (CC.cond (tm 14) CC.skip (CC.exit 0))
noncomputable abbrev s21_4 : CC := (CC.region [(wB 17 (doMove (tm 5))), (wB 18 (doFieldAddr 0 (tm 7))), (wB 19 (doLoad (tm 18))), (wB 20 (doMove (tm 0))), (wB 21 (doFieldAddr 1 (tm 7))), (wB 22 (doLoad (tm 21))), (wB 23 (doFieldAddr 2 (tm 7))), (wB 24 (doLoad (tm 23))), (wB 25 (doBuild [(V.s 0 0), (V.i IntKind.i64 (Int.ofNat 0)), (V.b Bool.false), (V.s 0 0)] [(Pt.mk 0 1 (tm 19)), (Pt.mk 1 1 (tm 20)), (Pt.mk 2 1 (tm 22)), (Pt.mk 3 1 (tm 24))])), (wB 26 (doBuildSlice 79 1 [(V.s 0 0), (V.i IntKind.i64 (Int.ofNat 0)), (V.b Bool.false), (V.s 0 0)] [(Pt.mk 0 4 (tm 25))])), (wB 27 (doAppend 79 4 (tm 17) (tm 26))), (wB 5 (doMove (tm 27)))])
noncomputable abbrev s21_5 : CC := (CC.seq (CC.region [(wB 15 (doIndexAddr 3 (tm 11) (tm 13))), (wB 16 (doLoadA 3 (tm 15))), (wB 7 (doAlloc 49 [(V.s 0 0), (V.b Bool.false), (V.s 0 0)])), (CO.mk G.none D.none Bool.true (CR.mk (doStore 3 (tm 7) (tm 16))))]) s21_4)
noncomputable abbrev s21_6 : CC := (CC.block 1 s21_5)
noncomputable abbrev s21_7 : CC := (CC.region [(wB 28 (bin2 fAdd (tm 13) (oN 1))), (wB 13 (doMove (tm 28)))])
noncomputable abbrev s21_8 : CC := (CC.seq s21_6 s21_7)
noncomputable abbrev s21_9 : CC := (CC.seq s21_3 s21_8)
noncomputable abbrev l21_0 : CC := (CC.seq (CC.region [(wB 14 (bin2 fLss (tm 13) (tm 12)))]) s21_9)
noncomputable abbrev s21_10 : CC := (CC.loop l21_0)
noncomputable abbrev s21_11 : CC := (CC.block 0 s21_10)
noncomputable abbrev s21_12 : CC := (CC.seq (CC.region [(wB 11 (doMove (tm 1))), (wB 12 (doLen (tm 11))), (wB 13 (doMove (oN 0)))]) s21_11)
noncomputable abbrev s21_13 : CC := (CC.seq (CC.region [(wB 29 (doMove (tm 5))), (wB 4 (doMove (tm 29)))]) CC.ret)
noncomputable abbrev s21_14 : CC := (CC.seq s21_12 s21_13)
noncomputable abbrev s21_15 : CC := (CC.seq (CC.region [(wB 5 (doMove (O.c V.l0)))]) s21_14)
noncomputable abbrev s21_16 : CC := (CC.seq s21_2 s21_15)
noncomputable abbrev b21 : CC := (CC.seq (CC.region [(wB 4 (doMove (O.c V.l0)))]) s21_16)
theorem c21 : compFn Try.prog 21 = ⟨30, b21, [(Rs.tmp (slOf 4))]⟩ := by kernel_rfl
noncomputable abbrev s13_0 : CC := (CC.cond (tm 24) (CC.exit 0) CC.skip)
noncomputable abbrev s13_1 : CC := (CC.seq (CC.region [(wB 25 (doMove (tm 7))), (wB 26 (bin2 fGtr (tm 25) (oN 0))), (wB 27 (doMove (tm 26))), (wG 27 true 28 (doMove (tm 8))), (wG 27 true 29 (doMove (tm 6))), (wG 27 true 30 (bin2 fAdd (tm 29) (oN 1))), (wG 27 true 31 (bin2 fNeq (tm 28) (tm 30))), (wB 32 (doPick (tm 27) (tm 31) (O.c (V.b Bool.false)))), (wB 24 (doMove (tm 32)))]) s13_0)
noncomputable abbrev s13_2 : CC := (CC.cond (tm 21) (CC.exit 0) s13_1)
noncomputable abbrev s13_3 : CC := (CC.seq (CC.region [(wB 22 (doMove (tm 11))), (wB 23 (bin2 fNeq (tm 22) (oN 0))), (wB 21 (doMove (tm 23)))]) s13_2)
noncomputable abbrev s13_4 : CC := (CC.block 2 s13_3)
noncomputable abbrev s13_5 : CC := (CC.region [(wB 38 (doMove (tm 8))), (wB 39 (doMove (tm 7))), (wB 40 (doMove (tm 10))), (wB 41 (bin2 fAdd (tm 39) (tm 40))), (wB 6 (doMove (tm 38))), (wB 7 (doMove (tm 41)))])
noncomputable abbrev s13_6 : CC := (CC.seq (CC.region [(wB 33 (doMove (tm 5))), (wB 34 (doMove (tm 8))), (wB 35 (doMove (tm 9))), (wB 36 (doCall 21 [(tm 34), (tm 35)])), (wB 37 (doAppend 79 4 (tm 33) (tm 36))), (wB 5 (doMove (tm 37)))]) s13_5)
noncomputable abbrev s13_7 : CC := (CC.seq s13_4 s13_6)
noncomputable abbrev s13_8 : CC := (CC.seq (CC.region [(wB 13 (doMove (tm 0))), (wB 14 (doMove (tm 7))), (wB 15 (doSSlice (tm 13) (some (tm 14)) none)), (wB 16 (doCall 11 [(tm 15)])), (wB 12 (doMove (tm 16))), (wB 17 (doExtract 0 (tm 12))), (wB 18 (doExtract 1 (tm 12))), (wB 19 (doExtract 2 (tm 12))), (wB 20 (doExtract 3 (tm 12))), (wB 8 (doMove (tm 17))), (wB 9 (doMove (tm 18))), (wB 10 (doMove (tm 19))), (wB 11 (doMove (tm 20)))]) s13_7)
noncomputable abbrev l13_0 : CC := (CC.block 1 s13_8)
noncomputable abbrev s13_9 : CC := (CC.loop l13_0)
noncomputable abbrev s13_10 : CC := (CC.block 0 s13_9)
noncomputable abbrev s13_11 : CC := (CC.seq (CC.region [(wB 42 (doMove (tm 5))), (wB 43 (doMove (tm 6))), (wB 44 (doMove (tm 7))), (wB 2 (doMove (tm 42))), (wB 3 (doMove (tm 43))), (wB 4 (doMove (tm 44)))]) CC.ret)
noncomputable abbrev s13_12 : CC := (CC.seq s13_10 s13_11)
noncomputable abbrev s13_13 : CC := (CC.seq CC.skip s13_12)
noncomputable abbrev s13_14 : CC := (CC.seq (CC.region [(wB 6 (doMove (oN 0))), (wB 7 (doMove (oN 0)))]) s13_13)
noncomputable abbrev s13_15 : CC := (CC.seq (CC.region [(wB 5 (doMove (O.c V.l0)))]) s13_14)
noncomputable abbrev b13 : CC := (CC.seq (CC.region [(wB 2 (doMove (O.c V.l0))), (wB 3 (doMove (oN 0))), (wB 4 (doMove (oN 0)))]) s13_15)
theorem c13 : compFn Try.prog 13 = ⟨45, b13, [(Rs.tmp (slOf 2)), (Rs.tmp (slOf 3)), (Rs.tmp (slOf 4))]⟩ := by kernel_rfl
noncomputable abbrev s25_0 : CC := (CC.seq (CC.draws [(uB 5 (doFieldAddr 0 (tm 1))), (uB 6 (doLoad (tm 5))), (uB 7 (doCall 43 [(tm 6)])), (uB 8 (doBuildSlice 5 1 [(V.i IntKind.u8 (Int.ofNat 0))] [(Pt.mk 0 1 (O.c (V.i IntKind.u8 (Int.ofNat 1))))])), (uB 9 (doB2S (tm 8))), (uB 10 (doConcat (tm 7) (tm 9))), (uB 2 (doMove (tm 10)))]) CC.ret)
noncomputable abbrev s25_1 : CC := (CC.cond (tm 4) s25_0 CC.skip)
noncomputable abbrev s25_2 : CC := (CC.seq (CC.region [(wB 3 (doFieldAddr 1 (tm 1))), (wB 4 (doLoad (tm 3)))]) s25_1)
noncomputable abbrev s25_3 : CC := (CC.seq (CC.draws [(uB 11 (doFieldAddr 0 (tm 1))), (uB 12 (doLoad (tm 11))), (uB 13 (doCall 43 [(tm 12)])), (uB 14 (doBuildSlice 5 1 [(V.i IntKind.u8 (Int.ofNat 0))] [(Pt.mk 0 1 (O.c (V.i IntKind.u8 (Int.ofNat 0))))])), (uB 15 (doB2S (tm 14))), (uB 16 (doConcat (tm 13) (tm 15))), (uB 17 (doFieldAddr 2 (tm 1))), (uB 18 (doLoad (tm 17))), (uB 19 (doCall 43 [(tm 18)])), (uB 20 (doConcat (tm 16) (tm 19))), (uB 2 (doMove (tm 20)))]) CC.ret)
noncomputable abbrev s25_4 : CC := (CC.seq s25_2 s25_3)
noncomputable abbrev b25 : CC := (CC.seq (CC.region [(wB 1 (doBox 49 (tm 0))), (wB 2 (doMove (O.c (V.s 0 0))))]) s25_4)
theorem c25 : compFn Try.prog 25 = ⟨21, b25, [(Rs.tmp (slOf 2))]⟩ := by kernel_rfl
noncomputable abbrev s32_0 : CC := (CC.seq (CC.region [(wB 2 (doMove (oN 0))), (wB 3 (doMove (O.c V.l0)))]) CC.ret)
noncomputable abbrev s32_1 : CC := (CC.cond (tm 20) s32_0 CC.skip)
noncomputable abbrev s32_2 : CC := (CC.seq (CC.region [(wB 19 (doMove (tm 6))), (wB 20 (bin2 fNeq (tm 19) (oN 0)))]) s32_1)
noncomputable abbrev s32_3 : CC := (CC.seq (CC.region [(wB 2 (doMove (oN 0))), (wB 3 (doMove (O.c V.l0)))]) CC.ret)
noncomputable abbrev s32_4 : CC := (CC.cond (tm 34) s32_3 CC.skip)
noncomputable abbrev s32_5 : CC := (CC.seq (CC.region [(wB 29 (doMove (tm 6))), (wB 30 (bin2 fNeq (tm 29) (oN 0))), (wB 31 (doMove (tm 30))), (wG 31 false 32 (doMove (tm 7))), (wG 31 false 33 (bin2 fGtr (tm 32) (oN 8))), (wB 34 (doPick (tm 31) (O.c (V.b Bool.true)) (tm 33)))]) s32_4)
noncomputable abbrev s32_6 : CC := (CC.cond (tm 40) CC.skip (CC.exit 0))
noncomputable abbrev s32_7 : CC := (CC.seq (CC.region [(wB 2 (doMove (oN 0))), (wB 3 (doMove (O.c V.l0)))]) CC.ret)
noncomputable abbrev s32_8 : CC := (CC.cond (tm 50) s32_7 CC.skip)
noncomputable abbrev s32_9 : CC := (CC.seq (CC.region [(wB 49 (doMove (tm 12))), (wB 50 (doNot (tm 49)))]) s32_8)
noncomputable abbrev s32_10 : CC := (CC.region [(wB 55 (doMove (tm 5))), (wB 56 (doMove (tm 11))), (wB 57 (bin2 fAdd (tm 55) (tm 56))), (wB 5 (doMove (tm 57)))])
noncomputable abbrev s32_11 : CC := (CC.seq (CC.region [(wB 51 (doMove (tm 9))), (wB 52 (doLoadA 3 (tm 10))), (wB 53 (doBuildSlice 49 1 [(V.s 0 0), (V.b Bool.false), (V.s 0 0)] [(Pt.mk 0 3 (tm 52))])), (wB 54 (doAppend 49 3 (tm 51) (tm 53))), (wB 9 (doMove (tm 54)))]) s32_10)
noncomputable abbrev s32_12 : CC := (CC.seq s32_9 s32_11)
noncomputable abbrev s32_13 : CC := (CC.seq (CC.region [(wB 42 (doMove (tm 0))), (wB 43 (doMove (tm 5))), (wB 44 (doSSlice (tm 42) (some (tm 43)) none)), (wB 45 (doCall 49 [(tm 44)])), (wB 41 (doMove (tm 45))), (wB 46 (doExtract 0 (tm 41))), (wB 47 (doExtract 1 (tm 41))), (wB 48 (doExtract 2 (tm 41))), (wB 10 (doAlloc 49 [(V.s 0 0), (V.b Bool.false), (V.s 0 0)])), (CO.mk G.none D.none Bool.true (CR.mk (doStore 3 (tm 10) (tm 46)))), (wB 11 (doMove (tm 47))), (wB 12 (doMove (tm 48)))]) s32_12)
noncomputable abbrev s32_14 : CC := (CC.block 1 s32_13)
noncomputable abbrev s32_15 : CC := (CC.region [(wB 58 (bin2 fAdd (tm 39) (oN 1))), (wB 39 (doMove (tm 58)))])
noncomputable abbrev s32_16 : CC := (CC.seq s32_14 s32_15)
noncomputable abbrev s32_17 : CC := (CC.seq s32_6 s32_16)
noncomputable abbrev l32_0 : CC := (CC.seq (CC.region [(wB 40 (bin2 fLss (tm 39) (tm 38)))]) s32_17)
noncomputable abbrev s32_18 : CC := (CC.loop l32_0)
noncomputable abbrev s32_19 : CC := (CC.block 0 s32_18)
noncomputable abbrev s32_20 : CC := (CC.seq (CC.region [(wB 38 (doMove (tm 7))), (wB 39 (doMove (oN 0)))]) s32_19)
noncomputable abbrev s32_21 : CC := (CC.seq (CC.region [(wB 59 (doMove (tm 4))), (wB 60 (doMove (tm 9))), (wB 2 (doMove (tm 59))), (wB 3 (doMove (tm 60)))]) CC.ret)
noncomputable abbrev s32_22 : CC := (CC.seq s32_20 s32_21)
noncomputable abbrev s32_23 : CC := (CC.seq (CC.region [(wB 9 (doMove (O.c V.l0)))]) s32_22)
noncomputable abbrev s32_24 : CC := (CC.seq (CC.region [(wB 35 (doMove (tm 5))), (wB 36 (doMove (tm 8))), (wB 37 (bin2 fAdd (tm 35) (tm 36))), (wB 5 (doMove (tm 37)))]) s32_23)
noncomputable abbrev s32_25 : CC := (CC.seq s32_5 s32_24)
noncomputable abbrev s32_26 : CC := (CC.seq (CC.region [(wB 22 (doMove (tm 0))), (wB 23 (doMove (tm 5))), (wB 24 (doSSlice (tm 22) (some (tm 23)) none)), (wB 25 (doCall 48 [(tm 24)])), (wB 21 (doMove (tm 25))), (wB 26 (doExtract 0 (tm 21))), (wB 27 (doExtract 1 (tm 21))), (wB 28 (doExtract 2 (tm 21))), (wB 7 (doMove (tm 26))), (wB 8 (doMove (tm 27))), (wB 6 (doMove (tm 28)))]) s32_25)
noncomputable abbrev s32_27 : CC := (CC.seq s32_2 s32_26)
noncomputable abbrev s32_28 : CC := (CC.seq (CC.region [(wB 14 (doMove (tm 0))), (wB 15 (doCall 48 [(tm 14)])), (wB 13 (doMove (tm 15))), (wB 16 (doExtract 0 (tm 13))), (wB 17 (doExtract 1 (tm 13))), (wB 18 (doExtract 2 (tm 13))), (wB 4 (doMove (tm 16))), (wB 5 (doMove (tm 17))), (wB 6 (doMove (tm 18)))]) s32_27)
noncomputable abbrev b32 : CC := (CC.seq (CC.region [(wB 2 (doMove (oN 0))), (wB 3 (doMove (O.c V.l0)))]) s32_28)
theorem c32 : compFn Try.prog 32 = ⟨61, b32, [(Rs.tmp (slOf 2)), (Rs.tmp (slOf 3))]⟩ := by kernel_rfl
noncomputable abbrev s49_0 : CC := (CC.seq (CC.region [(wB 26 (doBuild [(V.s 0 0), (V.b Bool.false), (V.s 0 0)] [])), (CO.mk G.none D.none Bool.true (CR.mk (doStore 3 (tm 2) (tm 26)))), (wB 3 (doMove (oN 0))), (wB 4 (doMove (O.c (V.b Bool.false))))]) CC.ret)
noncomputable abbrev s49_1 : CC := (CC.cond (tm 25) s49_0 CC.skip)
noncomputable abbrev s49_2 : CC := (CC.seq (CC.region [(wB 18 (doMove (tm 7))), (wB 19 (bin2 fNeq (tm 18) (oN 0))), (wB 20 (doMove (tm 19))), (wG 20 false 21 (doMove (tm 6))), (wG 20 false 22 (doMove (tm 0))), (wG 20 false 23 (doLenS (tm 22))), (wG 20 false 24 (bin2 fEql (tm 21) (tm 23))), (wB 25 (doPick (tm 20) (O.c (V.b Bool.true)) (tm 24)))]) s49_1)
noncomputable abbrev s49_3 : CC := (CC.seq (CC.region [(wB 44 (doMove (tm 5))), (wB 45 (doMove (tm 9))), (wB 46 (doBuild [(V.s 0 0), (V.b Bool.false), (V.s 0 0)] [(Pt.mk 0 1 (tm 44)), (Pt.mk 2 1 (tm 45))])), (wB 47 (doMove (tm 6))), (wB 48 (doMove (tm 10))), (wB 49 (bin2 fAdd (tm 47) (tm 48))), (wB 50 (doMove (tm 11))), (wB 51 (bin2 fEql (tm 50) (oN 0))), (CO.mk G.none D.none Bool.true (CR.mk (doStore 3 (tm 2) (tm 46)))), (wB 3 (doMove (tm 49))), (wB 4 (doMove (tm 51)))]) CC.ret)
noncomputable abbrev s49_4 : CC := (CC.seq (CC.region [(wB 37 (doMove (tm 0))), (wB 38 (doMove (tm 6))), (wB 39 (doSSlice (tm 37) (some (tm 38)) none)), (wB 40 (doCall 56 [(tm 39)])), (wB 36 (doMove (tm 40))), (wB 41 (doExtract 0 (tm 36))), (wB 42 (doExtract 1 (tm 36))), (wB 43 (doExtract 2 (tm 36))), (wB 9 (doMove (tm 41))), (wB 10 (doMove (tm 42))), (wB 11 (doMove (tm 43)))]) s49_3)
noncomputable abbrev s49_5 : CC := (CC.seq (CC.region [(wB 54 (doMove (tm 5))), (wB 55 (doBuild [(V.s 0 0), (V.b Bool.false), (V.s 0 0)] [(Pt.mk 0 1 (tm 54)), (Pt.mk 1 1 (O.c (V.b Bool.true)))])), (wB 56 (doMove (tm 6))), (CO.mk G.none D.none Bool.true (CR.mk (doStore 3 (tm 2) (tm 55)))), (wB 3 (doMove (tm 56))), (wB 4 (doMove (O.c (V.b Bool.true))))]) CC.ret)
noncomputable abbrev s49_6 : CC := (CC.seq (CC.region [(wB 33 (doBuild [(V.s 0 0), (V.b Bool.false), (V.s 0 0)] [])), (CO.mk G.none D.none Bool.true (CR.mk (doStore 3 (tm 2) (tm 33)))), (wB 3 (doMove (oN 0))), (wB 4 (doMove (O.c (V.b Bool.false))))]) CC.ret)
noncomputable abbrev s49_7 : CC := (CC.cond (tm 52) s49_5 s49_6)
noncomputable abbrev s49_8 : CC := (CC.seq (CC.region [(wB 53 (bin2 fEql (tm 32) (O.c (V.i IntKind.u8 (Int.ofNat 1))))), (wB 52 (doMove (tm 53)))]) s49_7)
noncomputable abbrev s49_9 : CC := (CC.cond (tm 34) s49_4 s49_8)
noncomputable abbrev s49_10 : CC := (CC.seq (CC.region [(wB 35 (bin2 fEql (tm 32) (O.c (V.i IntKind.u8 (Int.ofNat 0))))), (wB 34 (doMove (tm 35)))]) s49_9)
noncomputable abbrev s49_11 : CC := (CC.block 0 s49_10)
noncomputable abbrev s49_12 : CC := (CC.seq (CC.region [(wB 32 (doMove (tm 8)))]) s49_11)
noncomputable abbrev s49_13 : CC := (CC.seq (CC.region [(wB 30 (doMove (tm 6))), (wB 31 (bin2 fAdd (tm 30) (oN 1))), (wB 6 (doMove (tm 31)))]) s49_12)
noncomputable abbrev s49_14 : CC := (CC.seq (CC.region [(wB 27 (doMove (tm 0))), (wB 28 (doMove (tm 6))), (wB 29 (doSIndex (tm 27) (tm 28))), (wB 8 (doMove (tm 29)))]) s49_13)
noncomputable abbrev s49_15 : CC := (CC.seq s49_2 s49_14)
noncomputable abbrev s49_16 : CC := (CC.seq (CC.region [(wB 13 (doMove (tm 0))), (wB 14 (doCall 56 [(tm 13)])), (wB 12 (doMove (tm 14))), (wB 15 (doExtract 0 (tm 12))), (wB 16 (doExtract 1 (tm 12))), (wB 17 (doExtract 2 (tm 12))), (wB 5 (doMove (tm 15))), (wB 6 (doMove (tm 16))), (wB 7 (doMove (tm 17)))]) s49_15)
noncomputable abbrev b49 : CC := (CC.seq (CC.region [(wB 2 (doAlloc 49 [(V.s 0 0), (V.b Bool.false), (V.s 0 0)])), (wB 3 (doMove (oN 0))), (wB 4 (doMove (O.c (V.b Bool.false))))]) s49_16)
theorem c49 : compFn Try.prog 49 = ⟨57, b49, [(Rs.cellA (slOf 2) 3), (Rs.tmp (slOf 3)), (Rs.tmp (slOf 4))]⟩ := by kernel_rfl
end Go.Proofs.Ythncpgkpkdolfaa

set_option maxRecDepth 100000
set_option maxHeartbeats 8000000
set_option linter.all false
namespace Go.Proofs.Ythncpgkpkdolfaa
open Go Go.Ev
section
variable {L : List Wri}
theorem isortW0_ok {h : H} {v c : V} : FnOk Try.prog 57 [v, .i .i64 0, .i .i64 0, c] h fun y h' => h' = h := by
  refine fn_go c57 (by intro hb; cases hb) (by simp) (by simp) fun Q hQ => ?_
  simp only [slotsF, Nat.reduceAdd]
  repeat' (first
    | refine St.h ?_
    | simp (disch := first | omega | (simp only [lnv]; omega)) only [wlk, ↓get_put', ↓reduceIte, seval]
    | (with_reducible (first | apply cd_split | apply gd_split)) <;> (intro hc; (try simp only [hcn] at hc); (try simp only [hc]); (try simp only [hcl] at hc); try omega))
  refine Ok.lp (fun m t g => m = 0 ∧ h = g ∧ get 2 t = .i .i64 0 ∧ get 8 t = .i .i64 1) 0 ?_ ?_
  · simp (disch := first | omega | (simp only [lnv]; omega)) only [wlk, ↓get_put', ↓reduceIte, seval]
    repeat' (first | trivial | rfl | refine And.intro ?_ ?_)
  rintro I hI m t g ⟨rfl, rfl, f2, f8⟩
  repeat' (first
    | refine St.h ?_
    | simp (disch := first | omega | (simp only [lnv]; omega)) only [wlk, ↓get_put', ↓reduceIte, seval, f2, f8]
    | (with_reducible (first | apply cd_split | apply gd_split)) <;> (intro hc; (try simp only [hcn] at hc); (try simp only [hc]); (try simp only [hcl] at hc); try omega))
  subst hQ
  rfl
theorem stable0_ok {h : H} {v c : V} : FnOk Try.prog 51 [v, .i .i64 0, c] h fun y h' => h' = h := by
  refine fn_go c51 (by intro hb; cases hb) (by simp) (by simp) fun Q hQ => ?_
  simp only [slotsF, Nat.reduceAdd]
  repeat' (first
    | refine St.h ?_
    | simp (disch := first | omega | (simp only [lnv]; omega)) only [wlk, ↓get_put', ↓reduceIte, seval]
    | (with_reducible (first | apply cd_split | apply gd_split)) <;> (intro hc; (try simp only [hcn] at hc); (try simp only [hc]); (try simp only [hcl] at hc); try omega))
  refine Ok.lp (fun m t g => m = 0 ∧ h = g ∧ get 0 t = v ∧ get 1 t = .i .i64 0 ∧ get 2 t = c ∧ get 6 t = .i .i64 20 ∧ get 7 t = .i .i64 0 ∧ get 8 t = .i .i64 20) 0 ?_ ?_
  · simp (disch := first | omega | (simp only [lnv]; omega)) only [wlk, ↓get_put', ↓reduceIte, seval]
    repeat' (first | trivial | rfl | refine And.intro ?_ ?_)
  rintro I hI m t g ⟨rfl, rfl, f0, f1, f2, f6, f7, f8⟩
  repeat' (first
    | refine St.h ?_
    | simp (disch := first | omega | (simp only [lnv]; omega)) only [wlk, ↓get_put', ↓reduceIte, seval, f0, f1, f2, f6, f7, f8]
    | (with_reducible (first | apply cd_split | apply gd_split)) <;> (intro hc; (try simp only [hcn] at hc); (try simp only [hc]); (try simp only [hcl] at hc); try omega))
  refine CL.mk isortW0_ok ?_
  rintro y g1 rfl
  repeat' (first
    | refine St.h ?_
    | simp (disch := first | omega | (simp only [lnv]; omega)) only [wlk, ↓get_put', ↓reduceIte, seval, f0, f1, f2, f6, f7, f8]
    | (with_reducible (first | apply cd_split | apply gd_split)) <;> (intro hc; (try simp only [hcn] at hc); (try simp only [hc]); (try simp only [hcl] at hc); try omega))
  refine Ok.lp (fun m t g => m = 0 ∧ g1 = g ∧ get 0 t = v ∧ get 1 t = .i .i64 0 ∧ get 6 t = .i .i64 20) 0 ?_ ?_
  · simp (disch := first | omega | (simp only [lnv]; omega)) only [wlk, ↓get_put', ↓reduceIte, seval, f0, f1, f6]
    repeat' (first | trivial | rfl | refine And.intro ?_ ?_)
  rintro I2 hI2 m t g ⟨rfl, rfl, f0, f1, f6⟩
  repeat' (first
    | refine St.h ?_
    | simp (disch := first | omega | (simp only [lnv]; omega)) only [wlk, ↓get_put', ↓reduceIte, seval, f0, f1, f6]
    | (with_reducible (first | apply cd_split | apply gd_split)) <;> (intro hc; (try simp only [hcn] at hc); (try simp only [hc]); (try simp only [hcl] at hc); try omega))
  subst hQ
  rfl
theorem stable_ok {h : H} {v : V} (rb : Rw h v L) (hn : L.length < 40) (hf : B.val h.floor ≤ B.val h.next) : FnOk Try.prog 51 [v, .i .i64 (L.length : Int), .f 40 []] h fun y h' =>
    ∃ q, (∀ x, (∃ k, k < L.length ∧ q k = x) ↔ x < L.length) ∧ Srt L q 0 L.length ∧ Rw h' v (rwK L q L.length) ∧ Stay (isOf v) h h' := by
  have rid : Rw h v (rwK L (fun i => i) L.length) := by rw [rwK_id]; exact rb
  have hmem : ∀ q, Per (fun i => i) q 0 L.length → ∀ x, (∃ k, k < L.length ∧ q k = x) ↔ x < L.length := fun q hp x => by
    constructor
    · rintro ⟨k, h1, h2⟩
      obtain ⟨j, j1, j2, j3⟩ := (hp.mem x).1 ⟨k, Nat.zero_le _, h1, h2⟩
      have j3 : j = x := j3
      omega
    · intro hx
      obtain ⟨k, k1, k2, k3⟩ := (hp.mem x).2 ⟨x, Nat.zero_le _, hx, rfl⟩
      exact ⟨k, k2, k3⟩
  refine fn_go c51 (by intro hb; cases hb) (by simp) (by simp) fun Q hQ => ?_
  simp only [slotsF, Nat.reduceAdd]
  repeat' (first
    | refine St.h ?_
    | simp (disch := first | omega | (simp only [lnv]; omega)) only [wlk, ↓get_put', ↓reduceIte, seval]
    | (with_reducible (first | apply cd_split | apply gd_split)) <;> (intro hc; (try simp only [hcn] at hc); (try simp only [hc]); (try simp only [hcl] at hc); try omega))
  -- behind the first loop: a is 0 or 20
  refine Ok.lp (fun m t g => ∃ (a : Nat) (q : Nat → Nat), ((m = 1 ∧ a = 0) ∨ (m = 0 ∧ a = 20 ∧ 20 ≤ L.length)) ∧ get 0 t = v ∧ get 1 t = .i .i64 (L.length : Int) ∧ get 2 t = .f 40 [] ∧ get 6 t = .i .i64 20 ∧ get 7 t = .i .i64 (a : Int) ∧ get 8 t = .i .i64 ((a + 20 : Nat) : Int) ∧ Per (fun i => i) q 0 a ∧ Srt L q 0 a ∧ Rw g v (rwK L q L.length) ∧ Stay (isOf v) h g) 1 ?_ ?_
  · simp (disch := first | omega | (simp only [lnv]; omega)) only [wlk, ↓get_put', ↓reduceIte, seval]
    refine ⟨0, fun i => i, .inl (by simp), ?_⟩
    refine ⟨?_, ?_, ?_, ?_, ?_, ?_, Per.refl, fun i j h1 h2 h3 => by omega, rid, ⟨rfl, Nat.le_refl _, fun _ _ _ => rfl⟩⟩
    all_goals first | trivial | rfl
  rintro I hI m t g ⟨a, q, hma, f0, f1, f2, f6, f7, f8, hp, hs, rb1, st⟩
  have hfg := st.fl hf
  by_cases hle : a + 20 ≤ L.length
  case pos =>
    obtain ⟨rfl, rfl⟩ : m = 1 ∧ a = 0 := by omega
    have d1 : (((0 + 20 : Nat) : Int) ≤ (L.length : Int)) = True := eq_true (by omega)
    repeat' (first
      | refine St.h ?_
      | simp (disch := first | omega | (simp only [lnv]; omega)) only [wlk, ↓get_put', ↓reduceIte, seval, f0, f1, f2, f6, f7, f8, d1]
      | (with_reducible (first | apply cd_split | apply gd_split)) <;> (intro hc; (try simp only [hcn] at hc); (try simp only [hc]); (try simp only [hcl] at hc); try omega))
    refine CL.mk (isortW_ok (L := L) (N := L.length) (p := q) (a := 0) (b := 20) rb1 (by omega) (by omega) (by omega) (fun k _ _ => hp.out k (.inr (Nat.zero_le _))) hfg) ?_
    rintro y g1 ⟨q1, P1, S1, R1, s1⟩
    repeat' (first
      | refine St.h ?_
      | simp (disch := first | omega | (simp only [lnv]; omega)) only [wlk, ↓get_put', ↓reduceIte, seval, f0, f1, f2, f6, f7, f8]
      | (with_reducible (first | apply cd_split | apply gd_split)) <;> (intro hc; (try simp only [hcn] at hc); (try simp only [hc]); (try simp only [hcl] at hc); try omega))
    refine lp_next hI 0 (by omega) ⟨20, q1, .inr ⟨rfl, rfl, by omega⟩, by simp (disch := first | omega | (simp only [lnv]; omega)) only [wlk, ↓get_put', ↓reduceIte, seval, f0], by simp (disch := first | omega | (simp only [lnv]; omega)) only [wlk, ↓get_put', ↓reduceIte, seval, f1], by simp (disch := first | omega | (simp only [lnv]; omega)) only [wlk, ↓get_put', ↓reduceIte, seval, f2], by simp (disch := first | omega | (simp only [lnv]; omega)) only [wlk, ↓get_put', ↓reduceIte, seval, f6], by simp (disch := first | omega | (simp only [lnv]; omega)) only [wlk, ↓get_put', ↓reduceIte, seval, f8], by simp (disch := first | omega | (simp only [lnv]; omega)) only [wlk, ↓get_put', ↓reduceIte, seval, f8], (hp.wide (Nat.le_refl _) (by omega)).trans P1, S1, R1, st.trans s1⟩
  have ha : a ≤ L.length ∧ L.length < a + 20 := by omega
  have d1 : (((a + 20 : Nat) : Int) ≤ (L.length : Int)) = False := eq_false (by omega)
  repeat' (first
    | refine St.h ?_
    | simp (disch := first | omega | (simp only [lnv]; omega)) only [wlk, ↓get_put', ↓reduceIte, seval, f0, f1, f2, f6, f7, f8, d1]
    | (with_reducible (first | apply cd_split | apply gd_split)) <;> (intro hc; (try simp only [hcn] at hc); (try simp only [hc]); (try simp only [hcl] at hc); try omega))
  refine CL.mk (isortW_ok (L := L) (N := L.length) (p := q) (a := a) (b := L.length) rb1 (by omega) ha.1 (Nat.le_refl _) (fun k hk _ => hp.out k (.inr hk)) hfg) ?_
  rintro y g1 ⟨q1, P1, S1, R1, s1⟩
  have hf1 := s1.fl hfg
  have st1 := st.trans s1
  have Pt : Per (fun i => i) q1 0 L.length := (hp.wide (Nat.le_refl _) ha.1).trans (P1.wide (Nat.zero_le _) (Nat.le_refl _))
  repeat' (first
    | refine St.h ?_
    | simp (disch := first | omega | (simp only [lnv]; omega)) only [wlk, ↓get_put', ↓reduceIte, seval, f0, f1, f2, f6, f7, f8]
    | (with_reducible (first | apply cd_split | apply gd_split)) <;> (intro hc; (try simp only [hcn] at hc); (try simp only [hc]); (try simp only [hcl] at hc); try omega))
  -- the second loop merges once, if at all
  refine Ok.lp (fun m t g => ∃ (s : Nat) (q : Nat → Nat), ((m = 1 ∧ s = 20 ∧ q = q1) ∨ (m = 0 ∧ s = 40 ∧ 20 < L.length ∧ Per q1 q 0 L.length ∧ Srt L q 0 L.length)) ∧ get 0 t = v ∧ get 1 t = .i .i64 (L.length : Int) ∧ get 2 t = .f 40 [] ∧ get 6 t = .i .i64 (s : Int) ∧ Rw g v (rwK L q L.length) ∧ Stay (isOf v) h g) 1 ?_ ?_
  · simp (disch := first | omega | (simp only [lnv]; omega)) only [wlk, ↓get_put', ↓reduceIte, seval, f0, f1, f2, f6]
    refine ⟨20, q1, .inl (by simp), ?_⟩
    refine ⟨?_, ?_, ?_, ?_, R1, st1⟩
    all_goals first | trivial | rfl
  rintro I2 hI2 m2 t2 g2 ⟨s, q2, hms, e0, e1, e2, e6, R2, st2⟩
  have hf2 := st2.fl hf
  by_cases hlt : s < L.length
  case neg =>
    have d1 : ((s : Int) < (L.length : Int)) = False := eq_false (by omega)
    repeat' (first
      | refine St.h ?_
      | simp (disch := first | omega | (simp only [lnv]; omega)) only [wlk, ↓get_put', ↓reduceIte, seval, e0, e1, e2, e6, d1]
      | (with_reducible (first | apply cd_split | apply gd_split)) <;> (intro hc; (try simp only [hcn] at hc); (try simp only [hc]); (try simp only [hcl] at hc); try omega))
    subst hQ
    rcases hms with ⟨_, rfl, rfl⟩ | ⟨_, _, _, P2, S2⟩
    · refine ⟨q2, hmem _ Pt, ?_, R2, st2⟩
      by_cases h0 : a = 0
      · subst h0; exact S1
      · obtain rfl : a = 20 := by omega
        intro i j h1 h2 h3
        have := srt_out hs fun k k1 k2 => P1.out k (.inl k2)
        exact this i j h1 h2 (by omega)
    · exact ⟨q2, hmem _ (Pt.trans P2), S2, R2, st2⟩
  obtain ⟨rfl, rfl, rfl⟩ : m2 = 1 ∧ s = 20 ∧ q2 = q1 := by
    rcases hms with h | h
    · exact h
    · omega
  obtain rfl : a = 20 := by omega
  have d1 : (((20 : Nat) : Int) < (L.length : Int)) = True := eq_true (by omega)
  repeat' (first
    | refine St.h ?_
    | simp (disch := first | omega | (simp only [lnv]; omega)) only [wlk, ↓get_put', ↓reduceIte, seval, e0, e1, e2, e6, d1]
    | (with_reducible (first | apply cd_split | apply gd_split)) <;> (intro hc; (try simp only [hcn] at hc); (try simp only [hc]); (try simp only [hcl] at hc); try omega))
  refine Ok.lp (fun m t g => m = 0 ∧ g2 = g ∧ get 0 t = v ∧ get 1 t = .i .i64 (L.length : Int) ∧ get 2 t = .f 40 [] ∧ get 6 t = .i .i64 20 ∧ get 7 t = .i .i64 0 ∧ get 8 t = .i .i64 40) 0 ?_ ?_
  · simp (disch := first | omega | (simp only [lnv]; omega)) only [wlk, ↓get_put', ↓reduceIte, seval, e0, e1, e2, e6]
    repeat' (first | trivial | rfl | refine And.intro ?_ ?_)
  rintro I3 hI3 m3 t3 g3 ⟨rfl, rfl, f0, f1, f2, f6, f7, f8⟩
  have d2 : ((40 : Int) ≤ (L.length : Int)) = False := eq_false (by omega)
  have d3 : ((20 : Int) < (L.length : Int)) = True := eq_true (by omega)
  repeat' (first
    | refine St.h ?_
    | simp (disch := first | omega | (simp only [lnv]; omega)) only [wlk, ↓get_put', ↓reduceIte, seval, f0, f1, f2, f6, f7, f8, d2, d3]
    | (with_reducible (first | apply cd_split | apply gd_split)) <;> (intro hc; (try simp only [hcn] at hc); (try simp only [hc]); (try simp only [hcl] at hc); try omega))
  have hsm := sm_all (L := L) (N := L.length) (by omega) (L.length + 1) (h := g2) (v := v) (p := q2) (a := 0) (m := 20) (b := L.length) (by omega) R2 (by omega) (by omega) (Nat.le_refl _) (srt_out hs fun k k1 k2 => P1.out k (.inl k2)) S1 (fun i j i1 i2 i3 i4 _ => by
    have h5 : q2 i < 20 := by
      obtain ⟨k, k1, k2, k3⟩ := (hp.mem (q i)).1 ⟨i, i1, i2, rfl⟩
      have k3 : k = q i := k3
      rw [P1.out i (.inl i2)]; omega
    have h6 : 20 ≤ q2 j := by
      obtain ⟨k, k1, k2, k3⟩ := (P1.mem (q2 j)).1 ⟨j, i3, i4, rfl⟩
      rw [hp.out k (.inr k1)] at k3
      have k3 : k = q2 j := k3
      omega
    omega) hf2
  refine CL.mk hsm ?_
  rintro y g4 ⟨q4, P4, S4, R4, s4⟩
  repeat' (first
    | refine St.h ?_
    | simp (disch := first | omega | (simp only [lnv]; omega)) only [wlk, ↓get_put', ↓reduceIte, seval, f0, f1, f2, f6, f7, f8]
    | (with_reducible (first | apply cd_split | apply gd_split)) <;> (intro hc; (try simp only [hcn] at hc); (try simp only [hc]); (try simp only [hcl] at hc); try omega))
  refine lp_next hI2 0 (by omega) ⟨40, q4, .inr ⟨rfl, rfl, by omega, P4, S4⟩, by simp (disch := first | omega | (simp only [lnv]; omega)) only [wlk, ↓get_put', ↓reduceIte, seval, f0], by simp (disch := first | omega | (simp only [lnv]; omega)) only [wlk, ↓get_put', ↓reduceIte, seval, f1], by simp (disch := first | omega | (simp only [lnv]; omega)) only [wlk, ↓get_put', ↓reduceIte, seval, f2], by simp (disch := first | omega | (simp only [lnv]; omega)) only [wlk, ↓get_put', ↓reduceIte, seval, f6], R4, st2.trans s4⟩
theorem sort12_ok {h h0 : H} {v : V} (hc : ClW h0 h v L) (hn : L.length < 40) (hf : B.val h.floor ≤ B.val h.next) (hn0 : B.val h0.next ≤ B.val h.next) : FnOk Try.prog 39 [v, .f 40 []] h fun y h' =>
    ∃ M, kpK M M.length = neatB L ∧ M.length = L.length ∧ Ws h' v M ∧ Stay (fun q => B.val h0.next ≤ B.val q) h h' := by
  refine fn_go c39 (by intro hb; cases hb) (by simp) (by simp) fun Q hQ => ?_
  simp only [slotsF, Nat.reduceAdd]
  rcases hc with ⟨rfl, hw, hsw⟩ | ⟨hne, rb, hsw, own⟩
  · repeat' (first
      | refine St.h ?_
      | simp (disch := first | omega | (simp only [lnv]; omega)) only [wlk, ↓get_put', ↓reduceIte, seval, hw.ln]
      | (with_reducible (first | apply cd_split | apply gd_split)) <;> (intro hc; (try simp only [hcn] at hc); (try simp only [hc]); (try simp only [hcl] at hc); try omega))
    refine CL.mk stable0_ok ?_
    rintro y g1 rfl
    repeat' (first
      | refine St.h ?_
      | simp (disch := first | omega | (simp only [lnv]; omega)) only [wlk, ↓get_put', ↓reduceIte, seval]
      | (with_reducible (first | apply cd_split | apply gd_split)) <;> (intro hc; (try simp only [hcn] at hc); (try simp only [hc]); (try simp only [hcl] at hc); try omega))
    subst hQ
    exact ⟨[], rfl, rfl, hw, ⟨rfl, Nat.le_refl _, fun _ _ _ => rfl⟩⟩
  · have hw := rb.ws
    repeat' (first
      | refine St.h ?_
      | simp (disch := first | omega | (simp only [lnv]; omega)) only [wlk, ↓get_put', ↓reduceIte, seval, hw.ln]
      | (with_reducible (first | apply cd_split | apply gd_split)) <;> (intro hc; (try simp only [hcn] at hc); (try simp only [hc]); (try simp only [hcl] at hc); try omega))
    refine CL.mk (stable_ok rb hn hf) ?_
    rintro y g1 ⟨q, q1, q2, q3, q4⟩
    repeat' (first
      | refine St.h ?_
      | simp (disch := first | omega | (simp only [lnv]; omega)) only [wlk, ↓get_put', ↓reduceIte, seval]
      | (with_reducible (first | apply cd_split | apply gd_split)) <;> (intro hc; (try simp only [hcn] at hc); (try simp only [hc]); (try simp only [hcl] at hc); try omega))
    subst hQ
    refine ⟨_, ?_, rwK_len, q3.ws, q4.mono fun id _ hi => own id hi⟩
    rw [rwK_len]; exact kpK_neat q1 q2
theorem bneat_ok {h : H} {v : V} {L : List Wri} (hL : Ws h v L) (hw : SwN 3 v) (hl : L.length < 40) (hk : ∀ w ∈ L, w.key.length ≤ 100000) (hf : B.val h.floor ≤ B.val h.next) : FnOk Try.prog 18 [v] h fun y h' => Ws h' y (neatB L) ∧ SwN 3 y ∧ Stay nowhere h h' := by
  refine fn_go c18 (by intro hb; cases hb) (by simp) (by simp) fun Q hQ => ?_
  simp only [slotsF, Nat.reduceAdd]
  repeat' (first
    | refine St.h ?_
    | simp (disch := first | omega | (simp only [lnv]; omega)) only [wlk, ↓get_put', ↓reduceIte, seval]
    | (with_reducible (first | apply cd_split | apply gd_split)) <;> (intro hc; (try simp only [hcn] at hc); (try simp only [hc]); (try simp only [hcl] at hc); try omega))
  refine CL.mk (cloneW_ok hL (by omega) hf) ?_
  rintro v2 h1 ⟨hc, s1⟩
  have hf1 := s1.fl hf
  repeat' (first
    | refine St.h ?_
    | simp (disch := first | omega | (simp only [lnv]; omega)) only [wlk, ↓get_put', ↓reduceIte, seval]
    | (with_reducible (first | apply cd_split | apply gd_split)) <;> (intro hc; (try simp only [hcn] at hc); (try simp only [hc]); (try simp only [hcl] at hc); try omega))
  refine CL.mk (sort12_ok hc hl hf1 s1.next) ?_
  rintro y h2 ⟨M, hM, hMl, wM, s2⟩
  have st2 : Stay nowhere h h2 := s1.past' s2 fun id hi => hi
  have hf2 := st2.fl hf
  repeat' (first
    | refine St.h ?_
    | simp (disch := first | omega | (simp only [lnv]; omega)) only [wlk, ↓get_put', ↓reduceIte, seval, wM.ln]
    | (with_reducible (first | apply cd_split | apply gd_split)) <;> (intro hc; (try simp only [hcn] at hc); (try simp only [hc]); (try simp only [hcl] at hc); try omega))
  refine Ok.lp (fun m t g => ∃ (i : Nat) (u : V), m = M.length - i ∧ i ≤ M.length ∧ get 3 t = v2 ∧ get 4 t = u ∧ get 11 t = v2 ∧ get 12 t = .i .i64 (M.length : Int) ∧ get 13 t = .i .i64 (i : Int) ∧ Buf g 49 3 u ((kpK M i).flatMap wriC) ∧ (∀ q, isOf u q → B.val h2.next ≤ B.val q) ∧ Stay nowhere h2 g) M.length ?_ ?_
  · simp (disch := first | omega | (simp only [lnv]; omega)) only [wlk, ↓get_put', ↓reduceIte, seval]
    refine ⟨0, .l0, by omega, by omega, ?_⟩
    refine ⟨?_, ?_, ?_, ?_, ?_, .inl ⟨rfl, rfl⟩, ?_, Stay.refl _ _⟩
    rotate_right
    · rintro i ⟨_, _, _, _, _, e⟩; cases e
    all_goals first | trivial | rfl
  rintro I hI m t g ⟨i, u, rfl, hi, f3, f4, f11, f12, f13, bu, own, st⟩
  have hfg := st.fl hf2
  have Mg := wM.grow st
  by_cases hil : i < M.length
  case neg =>
    obtain rfl : i = M.length := by omega
    have d1 : ((M.length : Int) < (M.length : Int)) = False := eq_false (by omega)
    repeat' (first
      | refine St.h ?_
      | simp (disch := first | omega | (simp only [lnv]; omega)) only [wlk, ↓get_put', ↓reduceIte, seval, f3, f4, f11, f12, f13, d1]
      | (with_reducible (first | apply cd_split | apply gd_split)) <;> (intro hc; (try simp only [hcn] at hc); (try simp only [hc]); (try simp only [hcl] at hc); try omega))
    subst hQ
    rw [hM] at bu
    exact ⟨Ss.buf bu rfl wriC_len (by omega), swn_buf12 bu, st2.trans st⟩
  have d1 : ((i : Int) < (M.length : Int)) = True := eq_true (by omega)
  repeat' (first
    | refine St.h ?_
    | simp (disch := first | omega | (simp only [lnv]; omega)) only [wlk, ↓get_put', ↓reduceIte, seval, f3, f4, f11, f12, f13, d1, Mg.ix, Mg.la, Int.toNat_natCast]
    | (with_reducible (first | apply cd_split | apply gd_split)) <;> (intro hc; (try simp only [hcn] at hc); (try simp only [hc]); (try simp only [hcl] at hc); try omega))
  refine AL.own (by simp) hfg fun g1 t1 _ o1 => ?_
  have hf1 := t1.fl hfg
  repeat' (first
    | refine St.h ?_
    | simp (disch := first | omega | (simp only [lnv]; omega)) only [wlk, ↓get_put', ↓reduceIte, seval, f3, f4, f11, f12, f13]
    | (with_reducible (first | apply cd_split | apply gd_split)) <;> (intro hc; (try simp only [hcn] at hc); (try simp only [hc]); (try simp only [hcl] at hc); try omega))
  refine ST.all o1 rfl rfl (by simp) (by simp) fun g2 o2 t2 => ?_
  have hf2' := t2.fl hf1
  have tt : Stay nowhere g g2 := t1.past' t2 fun q hq => by rw [hq]; exact Nat.le_refl _
  have M2 := Mg.grow tt
  have b2 := bu.grow tt
  have r2 := o2.row
  have hkl := kpK_len M i
  have e1 : ((i : Int) + 1).toNat = i + 1 := by omega
  have go : lasK M i → ∀ t3 : F, get 3 t3 = v2 → get 11 t3 = v2 → get 12 t3 = .i .i64 (M.length : Int) → get 13 t3 = .i .i64 ((i + 1 : Nat) : Int) → ∀ u3 g3, get 4 t3 = u3 → Buf g3 49 3 u3 ((kpK M i ++ [M.getD i default]).flatMap wriC) → (∀ q, isOf u3 q → B.val h2.next ≤ B.val q) → Stay nowhere h2 g3 → LpG I (M.length - i) t3 g3 := fun hk t3 x3 x11 x12 x13 u3 g3 x4 xb xo xs =>
    lp_next hI (M.length - (i + 1)) (by omega) ⟨i + 1, u3, rfl, by omega, x3, x4, x11, x12, x13, by unfold kpK; rw [if_pos hk]; exact xb, xo, xs⟩
  by_cases c1 : i + 1 = M.length
  · have d2 : ((i : Int) + 1 = (M.length : Int)) = True := eq_true (by omega)
    repeat' (first
      | refine St.h ?_
      | simp (disch := first | omega | (simp only [lnv]; omega)) only [wlk, ↓get_put', ↓reduceIte, seval, f3, f4, f11, f12, f13, d2, M2.ln, r2.l1, r2.ln]
      | (with_reducible (first | apply cd_split | apply gd_split)) <;> (intro hc; (try simp only [hcn] at hc); (try simp only [hc]); (try simp only [hcl] at hc); try omega))
    refine AL.own (by simp) hf2' fun g3 t3 _ o3 => ?_
    repeat' (first
      | refine St.h ?_
      | simp (disch := first | omega | (simp only [lnv]; omega)) only [wlk, ↓get_put', ↓reduceIte, seval, f3, f4, f11, f12, f13]
      | (with_reducible (first | apply cd_split | apply gd_split)) <;> (intro hc; (try simp only [hcn] at hc); (try simp only [hc]); (try simp only [hcl] at hc); try omega))
    refine push_w (x := M.getD i default) (b2.grow t3) o3 (by omega) (t3.fl hf2') fun u4 g4 b4 t4 own4 => ?_
    repeat' (first
      | refine St.h ?_
      | simp (disch := first | omega | (simp only [lnv]; omega)) only [wlk, ↓get_put', ↓reduceIte, seval, f3, f4, f11, f12, f13]
      | (with_reducible (first | apply cd_split | apply gd_split)) <;> (intro hc; (try simp only [hcn] at hc); (try simp only [hc]); (try simp only [hcl] at hc); try omega))
    refine go (.inl c1) _ (by simp (disch := first | omega | (simp only [lnv]; omega)) only [wlk, ↓get_put', ↓reduceIte, seval, f3]) (by simp (disch := first | omega | (simp only [lnv]; omega)) only [wlk, ↓get_put', ↓reduceIte, seval, f11]) (by simp (disch := first | omega | (simp only [lnv]; omega)) only [wlk, ↓get_put', ↓reduceIte, seval, f12]) (by simp (disch := first | omega | (simp only [lnv]; omega)) only [wlk, ↓get_put', ↓reduceIte, seval, f13]; rfl) u4 _ (by simp (disch := first | omega | (simp only [lnv]; omega)) only [wlk, ↓get_put', ↓reduceIte, seval]) b4 (fun q hq => ?_) ((st.trans (tt.trans t3)).past' t4 fun q hq => own q hq)
    rcases own4 q hq with h5 | h5
    · exact own q h5
    · exact Nat.le_trans (st.trans (tt.trans t3)).next h5
  have d2 : ((i : Int) + 1 = (M.length : Int)) = False := eq_false (by omega)
  by_cases c2 : (M.getD (i + 1) default).key = (M.getD i default).key
  · repeat' (first
      | refine St.h ?_
      | simp (disch := first | omega | (simp only [lnv]; omega)) only [wlk, ↓get_put', ↓reduceIte, seval, f3, f4, f11, f12, f13, d2, M2.ln, M2.ix, M2.l0, r2.l1, r2.ln, e1, c2]
      | (with_reducible (first | apply cd_split | apply gd_split)) <;> (intro hc; (try simp only [hcn] at hc); (try simp only [hc]); (try simp only [hcl] at hc); try omega))
    have hk : ¬ lasK M i := fun h5 => by
      rcases h5 with h5 | h5
      · exact c1 h5
      · exact h5 c2
    exact lp_next hI (M.length - (i + 1)) (by omega) ⟨i + 1, u, rfl, by omega, by simp (disch := first | omega | (simp only [lnv]; omega)) only [wlk, ↓get_put', ↓reduceIte, seval, f3], by simp (disch := first | omega | (simp only [lnv]; omega)) only [wlk, ↓get_put', ↓reduceIte, seval, f4], by simp (disch := first | omega | (simp only [lnv]; omega)) only [wlk, ↓get_put', ↓reduceIte, seval, f11], by simp (disch := first | omega | (simp only [lnv]; omega)) only [wlk, ↓get_put', ↓reduceIte, seval, f12], by simp (disch := first | omega | (simp only [lnv]; omega)) only [wlk, ↓get_put', ↓reduceIte, seval, f13]; rfl, by unfold kpK; rw [if_neg hk]; exact b2, own, st.trans tt⟩
  · have d3 : ((M.getD (i + 1) default).key = (M.getD i default).key) = False := eq_false c2
    repeat' (first
      | refine St.h ?_
      | simp (disch := first | omega | (simp only [lnv]; omega)) only [wlk, ↓get_put', ↓reduceIte, seval, f3, f4, f11, f12, f13, d2, M2.ln, M2.ix, M2.l0, r2.l1, r2.ln, e1, d3]
      | (with_reducible (first | apply cd_split | apply gd_split)) <;> (intro hc; (try simp only [hcn] at hc); (try simp only [hc]); (try simp only [hcl] at hc); try omega))
    refine AL.own (by simp) hf2' fun g3 t3 _ o3 => ?_
    repeat' (first
      | refine St.h ?_
      | simp (disch := first | omega | (simp only [lnv]; omega)) only [wlk, ↓get_put', ↓reduceIte, seval, f3, f4, f11, f12, f13]
      | (with_reducible (first | apply cd_split | apply gd_split)) <;> (intro hc; (try simp only [hcn] at hc); (try simp only [hc]); (try simp only [hcl] at hc); try omega))
    refine push_w (x := M.getD i default) (b2.grow t3) o3 (by omega) (t3.fl hf2') fun u4 g4 b4 t4 own4 => ?_
    repeat' (first
      | refine St.h ?_
      | simp (disch := first | omega | (simp only [lnv]; omega)) only [wlk, ↓get_put', ↓reduceIte, seval, f3, f4, f11, f12, f13]
      | (with_reducible (first | apply cd_split | apply gd_split)) <;> (intro hc; (try simp only [hcn] at hc); (try simp only [hc]); (try simp only [hcl] at hc); try omega))
    refine go (.inr c2) _ (by simp (disch := first | omega | (simp only [lnv]; omega)) only [wlk, ↓get_put', ↓reduceIte, seval, f3]) (by simp (disch := first | omega | (simp only [lnv]; omega)) only [wlk, ↓get_put', ↓reduceIte, seval, f11]) (by simp (disch := first | omega | (simp only [lnv]; omega)) only [wlk, ↓get_put', ↓reduceIte, seval, f12]) (by simp (disch := first | omega | (simp only [lnv]; omega)) only [wlk, ↓get_put', ↓reduceIte, seval, f13]; rfl) u4 _ (by simp (disch := first | omega | (simp only [lnv]; omega)) only [wlk, ↓get_put', ↓reduceIte, seval]) b4 (fun q hq => ?_) ((st.trans (tt.trans t3)).past' t4 fun q hq => own q hq)
    rcases own4 q hq with h5 | h5
    · exact own q h5
    · exact Nat.le_trans (st.trans (tt.trans t3)).next h5
end
end Go.Proofs.Ythncpgkpkdolfaa

set_option linter.all false
namespace Go.Proofs.Ythncpgkpkdolfaa
open Go Go.Ev
theorem isB_all {L : List Wri} (h : isB L = true) : ∀ w ∈ L, isR w = true := fun w hw => by
  obtain ⟨i, hi, rfl⟩ := List.getElem_of_mem hw
  have := upA_is (isB_up h hi)
  rwa [show L.getD i default = L[i] by simp [List.getD, hi]] at this
theorem takeWs_rows : ∀ {L : List Wri} (more : List UInt8), (∀ w ∈ L, isR w = true) → takeWs L.length (L.flatMap oneB ++ more) = some (L, more)
  | [], _, _ => rfl
  | w :: L, more, h => by
    have hr := isR_len (h w (by simp))
    have ih := takeWs_rows (L := L) more fun x hx => h x (List.mem_cons_of_mem _ hx)
    have e1 : (w :: L).flatMap oneB ++ more = textB w.key ++ ((if w.del then [1] else 0 :: textB w.val) ++ (L.flatMap oneB ++ more)) := by
      rw [List.flatMap_cons]; unfold oneB; simp
    have hk : takeT (textB w.key ++ ((if w.del then [1] else 0 :: textB w.val) ++ (L.flatMap oneB ++ more))) = (w.key, ((textB w.key).length : Int), 0) := takeT_textB (by omega)
    rw [e1, List.length_cons]
    unfold takeWs
    rw [hk]
    have en : ((textB w.key).length : Int).toNat = (textB w.key).length := by omega
    have hd1 : ∀ X : List UInt8, (textB w.key ++ X).drop ((textB w.key).length + 1) = X.drop 1 := fun X => by
      rw [← List.drop_drop, List.drop_left]
    have hg : ∀ (c : UInt8) (X : List UInt8), (textB w.key ++ c :: X).getD (textB w.key).length 0 = c := fun c X => by simp [List.getD]
    cases hdel : w.del with
    | true =>
      have hv := hr.2.2.2 hdel
      show (if (0 : Int) ≠ 0 ∨ ((textB w.key).length : Int) = (((textB w.key ++ ([1] ++ (L.flatMap oneB ++ more))).length : Nat) : Int) then none else _) = _
      rw [if_neg (by rw [List.length_append]; simp; omega), en]
      show (if (textB w.key ++ 1 :: (L.flatMap oneB ++ more)).getD (textB w.key).length 0 = 1 then _ else _) = _
      rw [hg, if_pos rfl]
      show Option.map _ (takeWs L.length ((textB w.key ++ 1 :: (L.flatMap oneB ++ more)).drop ((textB w.key).length + 1))) = _
      rw [hd1]
      show Option.map _ (takeWs L.length (L.flatMap oneB ++ more)) = _
      rw [ih]
      show some ((⟨w.key, true, []⟩ : Wri) :: L, more) = _
      rw [← hdel, ← hv]
    | false =>
      show (if (0 : Int) ≠ 0 ∨ ((textB w.key).length : Int) = (((textB w.key ++ (0 :: textB w.val ++ (L.flatMap oneB ++ more))).length : Nat) : Int) then none else _) = _
      rw [if_neg (by rw [List.length_append]; simp; omega), en]
      show (if (textB w.key ++ 0 :: (textB w.val ++ (L.flatMap oneB ++ more))).getD (textB w.key).length 0 = 1 then _ else _) = _
      rw [hg, if_neg (by decide)]
      have ev : (textB w.key ++ 0 :: (textB w.val ++ (L.flatMap oneB ++ more))).drop ((textB w.key).length + 1) = textB w.val ++ (L.flatMap oneB ++ more) := by rw [hd1]; rfl
      show (if (takeT ((textB w.key ++ 0 :: (textB w.val ++ (L.flatMap oneB ++ more))).drop ((textB w.key).length + 1))).2.2 ≠ 0 then none else Option.map (fun r => ((⟨w.key, false, (takeT ((textB w.key ++ 0 :: (textB w.val ++ (L.flatMap oneB ++ more))).drop ((textB w.key).length + 1))).1⟩ : Wri) :: r.1, r.2)) (takeWs L.length (((textB w.key ++ 0 :: (textB w.val ++ (L.flatMap oneB ++ more))).drop ((textB w.key).length + 1)).drop (takeT ((textB w.key ++ 0 :: (textB w.val ++ (L.flatMap oneB ++ more))).drop ((textB w.key).length + 1))).2.1.toNat))) = _
      rw [ev, takeT_textB (by omega)]
      show (if (0 : Int) ≠ 0 then none else Option.map _ (takeWs L.length ((textB w.val ++ (L.flatMap oneB ++ more)).drop ((textB w.val).length : Int).toNat))) = _
      rw [if_neg (by omega), show ((textB w.val).length : Int).toNat = (textB w.val).length by omega, List.drop_left, ih]
      show some ((⟨w.key, false, w.val⟩ : Wri) :: L, more) = _
      rw [← hdel]
theorem okB12_iff {q : Int} {L : List Wri} : okB12 q L = true ↔ isB L = true ∧ 1 ≤ q ∧ q ≤ 1000000 := by
  unfold okB12; rw [Bool.and_eq_true, decide_eq_true_eq]
theorem readR_bat {q : Nat} {L : List Wri} (h : okB12 q L = true) (more : List UInt8) : readR (batB q L ++ more) = ((q : Int), L, ((batB q L).length : Int), 0) := by
  obtain ⟨hB, h1, h2⟩ := okB12_iff.1 h
  have hrl := rowsB_len hB
  have ln := numB_len (n := (q : Int).toNat) (by omega)
  have hl8 := isB_len hB
  have e : openB (batB q L ++ more) = (numB (q : Int).toNat ++ rowsB L, ((batB q L).length : Int), 0) := openB_seal (by rw [List.length_append]; omega)
  have eq1 : (q : Int).toNat = q := by omega
  have e1 : takeN (numB (q : Int).toNat ++ rowsB L) = ((q : Int), ((numB q).length : Int), 0) := by rw [eq1]; exact takeN_numB (by omega) _
  have ht : takeR ((numB (q : Int).toNat ++ rowsB L).drop (numB q).length) = some L := by
    rw [eq1, List.drop_left]
    unfold takeR rowsB
    rw [takeN_numB (by omega)]
    show (if (0 : Int) ≠ 0 ∨ (8 : Int) < (L.length : Int) then none else Option.map _ (takeWs (L.length : Int).toNat ((numB L.length ++ L.flatMap oneB).drop ((numB L.length).length : Int).toNat))) = _
    rw [if_neg (by omega), show (L.length : Int).toNat = L.length by omega, show ((numB L.length).length : Int).toNat = (numB L.length).length by omega, List.drop_left]
    have := takeWs_rows (L := L) [] (isB_all hB)
    rw [List.append_nil] at this
    rw [this]; rfl
  rw [readR_eq e e1, ht]
  show (if (bytB q L).2 = 0 ∧ (bytB q L).1 = (batB q L ++ more).take (batB q L).length then _ else _) = _
  have hb : bytB q L = (batB q L, 0) := by unfold bytB; rw [h]; rfl
  rw [hb, if_pos ⟨rfl, (List.take_left ..).symm⟩]
theorem readR_cut {q : Nat} {L : List Wri} (h : okB12 q L = true) {c : Nat} (hc : c < (batB q L).length) : (readR ((batB q L).take c)).2.2.2 ≠ 0 := by
  obtain ⟨hB, h1, h2⟩ := okB12_iff.1 h
  have hrl := rowsB_len hB
  have ln := numB_len (n := (q : Int).toNat) (by omega)
  have e : openB ((batB q L).take c) = ([], 0, 12) := openB_cut (by rw [List.length_append]; omega) hc
  unfold readR
  rw [e]; simp
theorem batB_pos (q : Int) (L : List Wri) : 0 < (batB q L).length := by
  unfold batB; rw [sealB_len]; omega
theorem logF_succ (k : Nat) (f : Bool) (z : Int) (s : List UInt8) : logF (k + 1) f z s = if s = [] ∨ (readR s).2.2.2 ≠ 0 ∨ (f = false ∧ (readR s).1 ≠ z + 1) then ([], z, 0)
    else (entB (readR s).1 (readR s).2.1 ++ (logF k false (readR s).1 (s.drop (readR s).2.2.1.toNat)).1, (logF k false (readR s).1 (s.drop (readR s).2.2.1.toNat)).2.1, (readR s).2.2.1.toNat + (logF k false (readR s).1 (s.drop (readR s).2.2.1.toNat)).2.2) := rfl
/-- nothing more is told -/
def stopL (f : Bool) (z : Int) (s : List UInt8) : Prop := s = [] ∨ (readR s).2.2.2 ≠ 0 ∨ (f = false ∧ (readR s).1 ≠ z + 1)
theorem logF_stop {f : Bool} {z : Int} {s : List UInt8} (h : stopL f z s) : ∀ k, logF k f z s = ([], z, 0)
  | 0 => rfl
  | k + 1 => by rw [logF_succ]; exact if_pos h
theorem logF_bat {f : Bool} {z : Int} {q : Nat} {L : List Wri} (h : okB12 q L = true) (hq : f = false → (q : Int) = z + 1) (more : List UInt8) (k : Nat) : logF (k + 1) f z (batB q L ++ more) = (entB q L ++ (logF k false q more).1, (logF k false q more).2.1, (batB q L).length + (logF k false q more).2.2) := by
  have hp := batB_pos q L
  have e := readR_bat h more
  rw [logF_succ, e, if_neg (by
    rintro (h1 | h1 | h1)
    · have h2 := congrArg List.length h1
      rw [List.length_append, List.length_nil] at h2; omega
    · exact h1 rfl
    · exact h1.2 (hq h1.1))]
  have ed : (batB q L ++ more).drop ((batB q L).length : Int).toNat = more := by rw [show ((batB q L).length : Int).toNat = (batB q L).length by omega, List.drop_left]
  have ee : ((batB q L).length : Int).toNat = (batB q L).length := by omega
  show (entB q L ++ (logF k false q ((batB q L ++ more).drop ((batB q L).length : Int).toNat)).1, (logF k false q ((batB q L ++ more).drop ((batB q L).length : Int).toNat)).2.1, ((batB q L).length : Int).toNat + (logF k false q ((batB q L ++ more).drop ((batB q L).length : Int).toNat)).2.2) = _
  rw [ed, ee]
/-- batches that are next to each other, from place a on -/
def preB (sq : Nat → Nat) (nt : Nat → List Wri) (a n : Nat) : List UInt8 := ((List.range n).map fun i => batB (sq (a + i)) (nt (a + i))).flatten
def cntB (nt : Nat → List Wri) (n : Nat) : Nat := ((List.range n).map fun i => (nt i).length).sum
theorem preB_zero (sq : Nat → Nat) (nt : Nat → List Wri) (a : Nat) : preB sq nt a 0 = [] := rfl
theorem preB_snoc (sq : Nat → Nat) (nt : Nat → List Wri) (a n : Nat) : preB sq nt a (n + 1) = preB sq nt a n ++ batB (sq (a + n)) (nt (a + n)) := by unfold preB; rw [List.range_succ, List.map_append, List.flatten_append]; simp
theorem preB_cons (sq : Nat → Nat) (nt : Nat → List Wri) (a n : Nat) : preB sq nt a (n + 1) = batB (sq a) (nt a) ++ preB sq nt (a + 1) n := by
  unfold preB
  rw [List.range_succ_eq_map, List.map_cons, List.flatten_cons, List.map_map]
  congr 2
  exact List.map_congr_left fun i _ => by show batB (sq (a + (i + 1))) (nt (a + (i + 1))) = _; rw [show a + (i + 1) = a + 1 + i by omega]
theorem preB_app (sq : Nat → Nat) (nt : Nat → List Wri) (a : Nat) : ∀ m n, preB sq nt a (m + n) = preB sq nt a m ++ preB sq nt (a + m) n
  | m, 0 => by rw [preB_zero, List.append_nil]; rfl
  | m, n + 1 => by rw [← Nat.add_assoc, preB_snoc, preB_app sq nt a m n, preB_snoc, List.append_assoc, Nat.add_assoc]
theorem cntB_succ (nt : Nat → List Wri) (n : Nat) : cntB nt (n + 1) = cntB nt n + (nt n).length := by unfold cntB; rw [List.range_succ, List.map_append, List.sum_append]; simp
theorem log_run {sq : Nat → Nat} {nt : Nat → List Wri} : ∀ (n a k : Nat) (f : Bool) (z : Int) (more : List UInt8), (∀ i, i < n → okB12 (sq (a + i)) (nt (a + i)) = true) → (f = false → 0 < n → (sq a : Int) = z + 1) → (∀ i, i + 1 < n → sq (a + i + 1) = sq (a + i) + 1) →
    (0 < n → stopL false (sq (a + (n - 1)) : Int) more) → (n = 0 → stopL f z more) → (logF (n + k) f z (preB sq nt a n ++ more)).1.length = ((List.range n).map fun i => (nt (a + i)).length).sum ∧ (logF (n + k) f z (preB sq nt a n ++ more)).2.1 = (if n = 0 then z else (sq (a + (n - 1)) : Int)) ∧ (logF (n + k) f z (preB sq nt a n ++ more)).2.2 = (preB sq nt a n).length
  | 0, a, k, f, z, more, _, _, _, _, h5 => by
    rw [preB_zero, List.nil_append, logF_stop (h5 rfl)]; exact ⟨rfl, rfl, rfl⟩
  | n + 1, a, k, f, z, more, h1, h2, h3, h4, _ => by
    have hb := h1 0 (by omega)
    rw [Nat.add_zero] at hb
    have hst := logF_bat (f := f) (z := z) hb (fun hf => h2 hf (by omega)) (preB sq nt (a + 1) n ++ more) (n + k)
    have ih := log_run n (a + 1) k false (sq a : Int) more (fun i hi => by have := h1 (i + 1) (by omega); rwa [show a + (i + 1) = a + 1 + i by omega] at this) (fun _ hn => by have h6 : sq (a + 1) = sq a + 1 := h3 0 (by omega); rw [h6]; omega)
      (fun i hi => by have := h3 (i + 1) (by omega); rwa [show a + (i + 1) + 1 = a + 1 + i + 1 by omega, show a + (i + 1) = a + 1 + i by omega] at this)
      (fun hn => by have := h4 (by omega); rwa [show a + (n + 1 - 1) = a + 1 + (n - 1) by omega] at this)
      (fun hn => by have := h4 (by omega); rwa [show a + (n + 1 - 1) = a by omega] at this)
    rw [preB_cons, List.append_assoc, show n + 1 + k = n + k + 1 by omega, hst]
    obtain ⟨i1, i2, i3⟩ := ih
    have hel : (entB (sq a) (nt a)).length = (nt a).length := by unfold entB; rw [(okB12_iff.1 hb).1]; simp
    refine ⟨?_, ?_, ?_⟩
    · show (entB (sq a) (nt a) ++ _).length = _
      rw [List.length_append, i1, hel, List.range_succ_eq_map, List.map_cons, List.sum_cons, List.map_map]
      congr 1
      congr 1
      exact List.map_congr_left fun i _ => by show (nt (a + 1 + i)).length = (nt (a + (i + 1))).length; rw [show a + (i + 1) = a + 1 + i by omega]
    · show (logF (n + k) false (sq a : Int) (preB sq nt (a + 1) n ++ more)).2.1 = _
      rw [i2]
      by_cases h0 : n = 0
      · subst h0; rfl
      · rw [if_neg h0, if_neg (show ¬ n + 1 = 0 by omega), show a + 1 + (n - 1) = a + (n + 1 - 1) by omega]
    · show (batB (sq a) (nt a)).length + (logF (n + k) false (sq a : Int) (preB sq nt (a + 1) n ++ more)).2.2 = _
      rw [i3, List.length_append]
theorem preB_ge (sq : Nat → Nat) (nt : Nat → List Wri) (a : Nat) : ∀ n, n ≤ (preB sq nt a n).length
  | 0 => Nat.zero_le _
  | n + 1 => by
    have h1 := preB_ge sq nt a n
    have h2 := batB_pos (sq (a + n)) (nt (a + n))
    rw [preB_snoc, List.length_append]; omega
theorem preB_mono (sq : Nat → Nat) (nt : Nat → List Wri) {m n : Nat} (h : m ≤ n) : (preB sq nt 0 m).length ≤ (preB sq nt 0 n).length := by
  obtain ⟨d, rfl⟩ : ∃ d, n = m + d := ⟨n - m, by omega⟩
  rw [preB_app, List.length_append]; omega
/-- the numbers: one is left out ahead of place j, if that isn't 0 -/
def sqB (F j i : Nat) : Nat := F + 1 + i + (if 0 < j ∧ j ≤ i then 1 else 0)
def whB (j n : Nat) : Nat := if 0 < j ∧ j < n then j else n
theorem whB_le (j n : Nat) : whB j n ≤ n := by unfold whB; split <;> omega
theorem sqB_lo {F j i n : Nat} (h : i < whB j n) : sqB F j i = F + 1 + i := by
  unfold whB at h
  unfold sqB
  split at h
  · rw [if_neg (by omega)]; rfl
  · rename_i h2
    by_cases h3 : 0 < j ∧ j ≤ i
    · omega
    · rw [if_neg h3]; rfl
theorem sqB_hi {F j n : Nat} (h : whB j n < n) : sqB F j (whB j n) = F + 2 + whB j n ∧ 0 < whB j n := by
  have h0 : 0 < j ∧ j < n := by
    unfold whB at h
    by_cases h2 : 0 < j ∧ j < n
    · exact h2
    · rw [if_neg h2] at h; omega
  have e : whB j n = j := by unfold whB; rw [if_pos h0]
  rw [e]
  unfold sqB
  rw [if_pos ⟨h0.1, Nat.le_refl _⟩]
  omega
theorem log_from {F j n at' : Nat} {nt : Nat → List Wri} {more : List UInt8} (hok : ∀ i, i < n → okB12 (sqB F j i) (nt i) = true) (ha : at' ≤ whB j n)
    (h1 : 0 < at' → stopL false ((F + at' : Nat) : Int) more) (h0 : at' = 0 → stopL true 0 more) :
    (logB (preB (sqB F j) nt 0 at' ++ more)).1.length = cntB nt at' ∧ (logB (preB (sqB F j) nt 0 at' ++ more)).2.1 = (if at' = 0 then 0 else ((F + at' : Nat) : Int)) ∧ (logB (preB (sqB F j) nt 0 at' ++ more)).2.2 = (preB (sqB F j) nt 0 at').length := by
  have hw := whB_le j n
  have hge := preB_ge (sqB F j) nt 0 at'
  obtain ⟨k, hk⟩ : ∃ k, (preB (sqB F j) nt 0 at' ++ more).length = at' + k := ⟨(preB (sqB F j) nt 0 at' ++ more).length - at', by rw [List.length_append]; omega⟩
  unfold logB
  rw [hk]
  have hz : ∀ i, i < at' → sqB F j (0 + i) = F + 1 + i := fun i hi => by rw [Nat.zero_add]; exact sqB_lo (n := n) (by omega)
  have hr := log_run at' 0 k true 0 more (fun i hi => by rw [Nat.zero_add]; exact hok i (by omega)) (fun h => by cases h) (fun i hi => by rw [show 0 + i + 1 = 0 + (i + 1) by omega, hz (i + 1) (by omega), hz i (by omega)]; omega)
    (fun hn => by rw [hz (at' - 1) (by omega), show F + 1 + (at' - 1) = F + at' by omega]; exact h1 hn) h0
  obtain ⟨r1, r2, r3⟩ := hr
  refine ⟨?_, ?_, r3⟩
  · rw [r1]; unfold cntB
    congr 1
    exact List.map_congr_left fun i _ => by rw [Nat.zero_add]
  · rw [r2]
    by_cases e : at' = 0
    · rw [if_pos e, if_pos e]
    · rw [if_neg e, if_neg e, hz (at' - 1) (by omega), show F + 1 + (at' - 1) = F + at' by omega]
theorem stop_wrong {F j n : Nat} {nt : Nat → List Wri} (hok : ∀ i, i < n → okB12 (sqB F j i) (nt i) = true) (h : whB j n < n) (more : List UInt8) : stopL false ((F + whB j n : Nat) : Int) (batB (sqB F j (whB j n)) (nt (whB j n)) ++ more) := by
  refine .inr (.inr ⟨rfl, ?_⟩)
  rw [readR_bat (hok _ h)]
  show ((sqB F j (whB j n) : Nat) : Int) ≠ ((F + whB j n : Nat) : Int) + 1
  rw [(sqB_hi h).1]; omega
theorem logs_all {F j n : Nat} {nt : Nat → List Wri} (hn : 1 ≤ n) (hok : ∀ i, i < n → okB12 (sqB F j i) (nt i) = true) :
    (logB (preB (sqB F j) nt 0 n)).1.length = cntB nt (whB j n) ∧ (logB (preB (sqB F j) nt 0 n)).2.1 = ((F + whB j n : Nat) : Int) ∧ (logB (preB (sqB F j) nt 0 n)).2.2 = (preB (sqB F j) nt 0 (whB j n)).length := by
  have hw := whB_le j n
  have hpos : 0 < whB j n := by unfold whB; split <;> omega
  obtain ⟨d, hd⟩ : ∃ d, n = whB j n + d := ⟨n - whB j n, by omega⟩
  have e : preB (sqB F j) nt 0 n = preB (sqB F j) nt 0 (whB j n) ++ preB (sqB F j) nt (whB j n) d := by
    have := preB_app (sqB F j) nt 0 (whB j n) d
    rw [Nat.zero_add, ← hd] at this; exact this
  rw [e]
  have := log_from (F := F) (j := j) (n := n) (at' := whB j n) (nt := nt) (more := preB (sqB F j) nt (whB j n) d) hok (Nat.le_refl _) (fun _ => by
    cases d with
    | zero => exact .inl rfl
    | succ d => rw [preB_cons]; exact stop_wrong hok (by omega) _) (fun h => by omega)
  rw [if_neg (by omega)] at this
  exact this
theorem logs_cut {F j n at' c : Nat} {nt : Nat → List Wri} (hn : 1 ≤ n) (hok : ∀ i, i < n → okB12 (sqB F j i) (nt i) = true) (hc : c < (preB (sqB F j) nt 0 n).length) (ha : at' ≤ whB j n) (h1 : (preB (sqB F j) nt 0 at').length ≤ c) (h2 : at' < whB j n → c < (preB (sqB F j) nt 0 (at' + 1)).length) :
    (logB ((preB (sqB F j) nt 0 n).take c)).1.length = cntB nt at' ∧ (logB ((preB (sqB F j) nt 0 n).take c)).2.1 = (if at' = 0 then 0 else ((F + at' : Nat) : Int)) ∧ (logB ((preB (sqB F j) nt 0 n).take c)).2.2 = (preB (sqB F j) nt 0 at').length := by
  have hw := whB_le j n
  have hpos : 0 < whB j n := by unfold whB; split <;> omega
  have hlt : at' < n := by
    rcases Nat.lt_or_ge at' n with h | h
    · exact h
    · have : at' = n := by omega
      rw [this] at h1; omega
  obtain ⟨d, hd⟩ : ∃ d, n = at' + (d + 1) := ⟨n - at' - 1, by omega⟩
  have e : preB (sqB F j) nt 0 n = preB (sqB F j) nt 0 at' ++ (batB (sqB F j at') (nt at') ++ preB (sqB F j) nt (at' + 1) d) := by
    have := preB_app (sqB F j) nt 0 at' (d + 1)
    rw [Nat.zero_add, ← hd, preB_cons] at this; exact this
  have et : (preB (sqB F j) nt 0 n).take c = preB (sqB F j) nt 0 at' ++ (batB (sqB F j at') (nt at') ++ preB (sqB F j) nt (at' + 1) d).take (c - (preB (sqB F j) nt 0 at').length) := by
    rw [e, List.take_append, List.take_of_length_le h1]
  rw [et]
  rcases Nat.lt_or_ge (c - (preB (sqB F j) nt 0 at').length) (batB (sqB F j at') (nt at')).length with hcut | hcut
  · have hst : ∀ f z, stopL f z ((batB (sqB F j at') (nt at') ++ preB (sqB F j) nt (at' + 1) d).take (c - (preB (sqB F j) nt 0 at').length)) := fun f z => by
      rw [List.take_append_of_le_length (Nat.le_of_lt hcut)]
      exact .inr (.inl (readR_cut (hok _ hlt) hcut))
    exact log_from hok ha (fun _ => hst _ _) fun _ => hst _ _
  · have hat : at' = whB j n := by
      rcases Nat.lt_or_ge at' (whB j n) with h | h
      · have := h2 h
        rw [preB_snoc, List.length_append, Nat.zero_add] at this; omega
      · omega
    refine log_from hok ha (fun _ => ?_) fun h => by omega
    rw [List.take_append, List.take_of_length_le hcut]
    have hx := hat ▸ hlt
    rw [hat]
    exact stop_wrong hok hx _
end Go.Proofs.Ythncpgkpkdolfaa

set_option linter.all false
namespace Go.Proofs.Ythncpgkpkdolfaa
open Go Go.Ev
/-- the write at the front -/
def tkP (s : List UInt8) : Option (Wri × Nat) :=
  if (takeT s).2.2 ≠ 0 ∨ (takeT s).2.1 = (s.length : Int) then none
  else if s.getD (takeT s).2.1.toNat 0 = 0 then
    (if (takeT (s.drop ((takeT s).2.1.toNat + 1))).2.2 ≠ 0 then none else some (⟨(takeT s).1, false, (takeT (s.drop ((takeT s).2.1.toNat + 1))).1⟩, (takeT s).2.1.toNat + 1 + (takeT (s.drop ((takeT s).2.1.toNat + 1))).2.1.toNat))
  else if s.getD (takeT s).2.1.toNat 0 = 1 then some (⟨(takeT s).1, true, []⟩, (takeT s).2.1.toNat + 1) else none
def tksP : Nat → List UInt8 → Option (List Wri)
  | 0, _ => some []
  | n + 1, s => (tkP s).bind fun r => (tksP n (s.drop r.2)).map (r.1 :: ·)
def taP (s : List UInt8) : Int × List Wri :=
  if (takeN s).2.2 ≠ 0 then (0, []) else
  let r := s.drop (takeN s).2.1.toNat
  if (takeN r).2.2 ≠ 0 ∨ 8 < (takeN r).1 then (0, []) else
  match tksP (takeN r).1.toNat (r.drop (takeN r).2.1.toNat) with
  | none => (0, [])
  | some l => ((takeN s).1, l)
theorem tksP_len : ∀ {n : Nat} {s : List UInt8} {l : List Wri}, tksP n s = some l → l.length = n
  | 0, s, l, h => by cases h; rfl
  | n + 1, s, l, h => by
    unfold tksP at h
    cases e : tkP s with
    | none => rw [e] at h; cases h
    | some r =>
      rw [e] at h
      have h : (tksP n (s.drop r.2)).map (r.1 :: ·) = some l := h
      cases e2 : tksP n (s.drop r.2) with
      | none => rw [e2] at h; cases h
      | some m =>
        rw [e2] at h; cases h
        simp [tksP_len e2]
theorem taP_len (s : List UInt8) : (taP s).2.length ≤ 8 := by
  unfold taP
  split
  · simp
  · show (if _ then _ else _ : Int × List Wri).2.length ≤ 8
    split
    · simp
    · rename_i hn
      split
      · simp
      · rename_i l e
        have := tksP_len e
        show l.length ≤ 8
        omega
theorem taP_int (s : List UInt8) : 0 ≤ (taP s).1 ∧ (taP s).1 ≤ 9223372036854775807 := by
  have h := takeN_range s
  have h3 : 0 ≤ (takeN s).1 ∧ (takeN s).1 ≤ 9223372036854775807 := by
    rcases h with (e | e) | ⟨n, k, e, hn, _⟩
    · rw [e]; simp
    · rw [e]; simp
    · rw [e]; show 0 ≤ (n : Int) ∧ (n : Int) ≤ _; omega
  unfold taP
  split
  · simp
  · show 0 ≤ (if _ then _ else _ : Int × List Wri).1 ∧ (if _ then _ else _ : Int × List Wri).1 ≤ _
    split
    · simp
    · split
      · simp
      · exact h3
theorem tkP_one {w : Wri} (h : isR w = true) (more : List UInt8) : tkP (oneB w ++ more) = some (w, (oneB w).length) := by
  have hr := isR_len h
  have hk : ∀ X, takeT (textB w.key ++ X) = (w.key, ((textB w.key).length : Int), 0) := fun X => takeT_textB (by omega)
  have en : ((textB w.key).length : Int).toNat = (textB w.key).length := by omega
  have hd1 : ∀ X : List UInt8, (textB w.key ++ X).drop ((textB w.key).length + 1) = X.drop 1 := fun X => by
    rw [← List.drop_drop, List.drop_left]
  have hg : ∀ (c : UInt8) (X : List UInt8), (textB w.key ++ c :: X).getD (textB w.key).length 0 = c := fun c X => by simp [List.getD]
  cases hdel : w.del with
  | true =>
    have hv := hr.2.2.2 hdel
    have e1 : oneB w = textB w.key ++ [1] := by unfold oneB; rw [hdel]; rfl
    have e2 : oneB w ++ more = textB w.key ++ 1 :: more := by rw [e1]; simp
    have e3 : (oneB w).length = (textB w.key).length + 1 := by rw [e1]; simp
    rw [e2, e3]
    unfold tkP
    rw [hk, en]
    show (if (0 : Int) ≠ 0 ∨ ((textB w.key).length : Int) = (((textB w.key ++ 1 :: more).length : Nat) : Int) then none else _) = _
    rw [if_neg (by rw [List.length_append]; simp; omega), hg, if_neg (by decide), if_pos rfl]
    show some ((⟨w.key, true, []⟩ : Wri), _) = _
    rw [← hdel, ← hv]
  | false =>
    have e1 : oneB w = textB w.key ++ 0 :: textB w.val := by unfold oneB; rw [hdel]; rfl
    have e2 : oneB w ++ more = textB w.key ++ 0 :: (textB w.val ++ more) := by rw [e1]; simp
    have e3 : (oneB w).length = (textB w.key).length + 1 + (textB w.val).length := by rw [e1]; simp; omega
    have ev : (textB w.key ++ 0 :: (textB w.val ++ more)).drop ((textB w.key).length + 1) = textB w.val ++ more := by rw [hd1]; rfl
    rw [e2, e3]
    unfold tkP
    rw [hk, en]
    show (if (0 : Int) ≠ 0 ∨ ((textB w.key).length : Int) = (((textB w.key ++ 0 :: (textB w.val ++ more)).length : Nat) : Int) then none else _) = _
    rw [if_neg (by rw [List.length_append]; simp; omega), hg, if_pos rfl]
    show (if (takeT ((textB w.key ++ 0 :: (textB w.val ++ more)).drop ((textB w.key).length + 1))).2.2 ≠ 0 then none else some ((⟨w.key, false, (takeT ((textB w.key ++ 0 :: (textB w.val ++ more)).drop ((textB w.key).length + 1))).1⟩ : Wri), (textB w.key).length + 1 + (takeT ((textB w.key ++ 0 :: (textB w.val ++ more)).drop ((textB w.key).length + 1))).2.1.toNat)) = _
    rw [ev, takeT_textB (by omega)]
    show (if (0 : Int) ≠ 0 then none else some ((⟨w.key, false, w.val⟩ : Wri), (textB w.key).length + 1 + ((textB w.val).length : Int).toNat)) = _
    rw [if_neg (by omega), show ((textB w.val).length : Int).toNat = (textB w.val).length by omega, ← hdel]
theorem tksP_rows : ∀ {L : List Wri} (more : List UInt8), (∀ w ∈ L, isR w = true) → tksP L.length (L.flatMap oneB ++ more) = some L
  | [], _, _ => rfl
  | w :: L, more, h => by
    have ih := tksP_rows (L := L) more fun x hx => h x (List.mem_cons_of_mem _ hx)
    rw [List.flatMap_cons, List.length_cons, List.append_assoc]
    unfold tksP
    rw [tkP_one (h w (by simp))]
    show (tksP L.length ((oneB w ++ (L.flatMap oneB ++ more)).drop (oneB w).length)).map (w :: ·) = _
    rw [List.drop_left, ih]; rfl
theorem taP_bat {q : Nat} {L : List Wri} (h : okB12 q L = true) : taP (numB q ++ rowsB L) = ((q : Int), L) := by
  obtain ⟨hB, h1, h2⟩ := okB12_iff.1 h
  have hl8 := isB_len hB
  unfold taP
  rw [takeN_numB (by omega)]
  show (if (0 : Int) ≠ 0 then _ else _ : Int × List Wri) = _
  rw [if_neg (by omega)]
  have e1 : (numB q ++ rowsB L).drop (((q : Int), ((numB q).length : Int), (0 : Int)).2.1.toNat) = rowsB L := by
    show (numB q ++ rowsB L).drop ((numB q).length : Int).toNat = _
    rw [show ((numB q).length : Int).toNat = (numB q).length by omega, List.drop_left]
  rw [e1]
  have e2 : takeN (rowsB L) = ((L.length : Int), ((numB L.length).length : Int), 0) := by unfold rowsB; exact takeN_numB (by omega) _
  show (if (takeN (rowsB L)).2.2 ≠ 0 ∨ 8 < (takeN (rowsB L)).1 then ((0 : Int), ([] : List Wri)) else match tksP (takeN (rowsB L)).1.toNat ((rowsB L).drop (takeN (rowsB L)).2.1.toNat) with | none => ((0 : Int), ([] : List Wri)) | some l => ((q : Int), l)) = _
  rw [e2]
  show (if (0 : Int) ≠ 0 ∨ (8 : Int) < (L.length : Int) then _ else _ : Int × List Wri) = _
  rw [if_neg (by omega)]
  show (match tksP (L.length : Int).toNat ((rowsB L).drop ((numB L.length).length : Int).toNat) with | none => ((0 : Int), ([] : List Wri)) | some l => ((q : Int), l)) = _
  rw [show (L.length : Int).toNat = L.length by omega, show ((numB L.length).length : Int).toNat = (numB L.length).length by omega]
  unfold rowsB
  rw [List.drop_left]
  have := tksP_rows (L := L) [] (isB_all hB)
  rw [List.append_nil] at this
  rw [this]
theorem sealB_inj {a b : List UInt8} (ha : a.length ≤ 9223372036854775807) (hb : b.length ≤ 9223372036854775807) (h : sealB a = sealB b) : a = b := by
  have e1 := openB_seal (l := a) (more := []) ha
  have e2 := openB_seal (l := b) (more := []) hb
  rw [h, e2] at e1
  exact (Prod.mk.inj e1).1.symm
/-- what the program reads is what the document reads -/
theorem readP {s x : List UInt8} {n : Nat} (hs : s.length ≤ 1000000) (e : openB s = (x, (n : Int), 0)) : readR s = if (bytB (taP x).1 (taP x).2).1 = s.take n then ((taP x).1, (taP x).2, (n : Int), 0) else (0, [], 0, 10) := by
  obtain ⟨more, hm⟩ := openB_inv e
  have hx : x.length ≤ s.length := by rw [hm, List.length_append, sealB_len]; omega
  have hn : n = (sealB x).length := by
    have := openB_seal (l := x) (more := more) (by omega)
    rw [← hm, e] at this
    have := (Prod.mk.inj (Prod.mk.inj this).2).1
    omega
  have ht : s.take n = sealB x := by rw [hm, hn, List.take_left]
  have hp : 0 < (sealB x).length := by rw [sealB_len]; omega
  rw [ht]
  by_cases hb : (bytB (taP x).1 (taP x).2).1 = sealB x
  · rw [if_pos hb]
    have ho : okB12 (taP x).1 (taP x).2 = true := by
      cases ho : okB12 (taP x).1 (taP x).2 with
      | true => rfl
      | false =>
        unfold bytB at hb; rw [ho] at hb
        have := congrArg List.length hb
        simp at this; omega
    have hb2 : batB (taP x).1 (taP x).2 = sealB x := by rw [← hb]; unfold bytB; rw [ho]; rfl
    obtain ⟨h0, h1, h2⟩ := okB12_iff.1 ho
    obtain ⟨q, hq⟩ : ∃ q : Nat, (taP x).1 = (q : Int) := ⟨(taP x).1.toNat, by omega⟩
    rw [hq] at ho hb2 ⊢
    rw [hm, hn, ← hb2]
    exact readR_bat ho more
  · rw [if_neg hb]
    rcases takeN_range x with (e1 | e1) | ⟨q, k, e1, q1, k1, k2, k3⟩
    · exact readR_num e (by rw [e1]; simp)
    · exact readR_num e (by rw [e1]; simp)
    · rw [readR_eq e e1]
      cases htr : takeR (x.drop k) with
      | none => rfl
      | some l =>
        show (if (bytB q l).2 = 0 ∧ (bytB q l).1 = s.take n then _ else _) = _
        refine if_neg fun ⟨b1, b2⟩ => ?_
        obtain ⟨c1, c2⟩ := bytB_ok b1
        rw [ht, c2] at b2
        obtain ⟨hB, h1, h2⟩ := okB12_iff.1 c1
        have hrl := rowsB_len hB
        have ln := numB_len (n := q) (by omega)
        have hxe : numB (q : Int).toNat ++ rowsB l = x := sealB_inj (by rw [List.length_append, show (q : Int).toNat = q by omega]; omega) (by omega) b2
        rw [show (q : Int).toNat = q by omega] at hxe
        rw [← hxe, taP_bat c1] at hb
        refine hb ?_
        show (bytB q l).1 = _
        rw [c2, hxe]; exact b2
end Go.Proofs.Ythncpgkpkdolfaa

set_option maxRecDepth 1000000
set_option linter.all false
namespace Go.Proofs.Ythncpgkpkdolfaa
open Go Go.Ev
noncomputable abbrev s23_0 : CC := (CC.seq (CC.region [(wB 17 (doMove (tm 1))), (wB 18 (doLenS (tm 17))), (wB 4 (doMove (tm 18))), (wB 5 (doMove (O.c V.x0)))]) CC.ret)
noncomputable abbrev s23_1 : CC := (CC.seq (CC.region [(wB 8 (doMove (tm 0))), (wB 9 (doMove (tm 0))), (wB 10 (doNilCheck (tm 9))), (wB 11 (doFieldAddr 1 (tm 10))), (wB 12 (doLoad (tm 11))), (wB 13 (doMove (tm 1))), (wB 14 (doAppendS 5 (tm 12) (tm 13))), (wB 15 (doNilCheck (tm 8))), (wB 16 (doFieldAddr 1 (tm 15))), (CO.mk G.none D.none Bool.true (CR.mk (doStore 1 (tm 16) (tm 14))))]) s23_0)
noncomputable abbrev s23_2 : CC := (CC.seq (CC.region [(wB 6 (doMove (tm 0))), (wB 7 (doCall 42 [(tm 6)]))]) s23_1)
noncomputable abbrev b23 : CC := (CC.seq (CC.region [(wB 4 (doMove (oN 0))), (wB 5 (doMove (O.c V.x0)))]) s23_2)
theorem c23 : compFn Try.prog 23 = ⟨19, b23, [(Rs.tmp (slOf 4)), (Rs.tmp (slOf 5))]⟩ := by kernel_rfl
noncomputable abbrev s27_0 : CC := (CC.seq (CC.draws [(uB 3 (doMove (tm 0))), (uB 4 (doNilCheck (tm 3))), (uB 5 (doFieldAddr 1 (tm 4))), (uB 6 (doLoad (tm 5))), (uB 7 (doSData (tm 6))), (uB 8 (doMove (tm 0))), (uB 9 (doNilCheck (tm 8))), (uB 10 (doFieldAddr 1 (tm 9))), (uB 11 (doLoad (tm 10))), (uB 12 (doLen (tm 11))), (wB 13 (doUStr 5 (tm 7) (tm 12))), (uB 2 (doMove (tm 13)))]) CC.ret)
noncomputable abbrev b27 : CC := (CC.seq (CC.region [(wB 2 (doMove (O.c (V.s 0 0))))]) s27_0)
theorem c27 : compFn Try.prog 27 = ⟨14, b27, [(Rs.tmp (slOf 2))]⟩ := by kernel_rfl
noncomputable abbrev s42_0 : CC := (CC.region [(wB 7 (doMove (tm 0))), (wB 8 (doMove (tm 0))), (wB 9 (doP2U (tm 8))), (wB 10 (doMove (tm 9))), (wB 11 (doU2P 54 2 (tm 10))), (wB 12 (doNilCheck (tm 7))), (wB 13 (doFieldAddr 0 (tm 12))), (CO.mk G.none D.none Bool.true (CR.mk (doStore 1 (tm 13) (tm 11))))])
noncomputable abbrev s42_1 : CC := (CC.cond (tm 19) CC.bad CC.skip)
noncomputable abbrev s42_2 : CC := (CC.seq (CC.region [(wB 14 (doMove (tm 0))), (wB 15 (doNilCheck (tm 14))), (wB 16 (doFieldAddr 0 (tm 15))), (wB 17 (doLoad (tm 16))), (wB 18 (doMove (tm 0))), (wB 19 (doPtr Bool.true (tm 17) (tm 18)))]) s42_1)
noncomputable abbrev s42_3 : CC := (CC.cond (tm 6) s42_0 s42_2)
noncomputable abbrev b42 : CC := (CC.seq (CC.region [(wB 2 (doMove (tm 0))), (wB 3 (doNilCheck (tm 2))), (wB 4 (doFieldAddr 0 (tm 3))), (wB 5 (doLoad (tm 4))), (wB 6 (doPtr Bool.false (tm 5) (O.c V.p0)))]) s42_3)
theorem c42 : compFn Try.prog 42 = ⟨20, b42, []⟩ := by kernel_rfl
end Go.Proofs.Ythncpgkpkdolfaa

set_option maxRecDepth 100000
set_option maxHeartbeats 8000000
set_option linter.all false
namespace Go.Proofs.Ythncpgkpkdolfaa
open Go Go.Ev
section
variable {h : H} {lo : Nat} {id : B} {U : B → Prop} {a : List UInt8}
theorem copyCheck_ok (s : Sb h lo 54 5 id U a) : FnOk Try.prog 42 [.p id 0 0 2] h fun y h' => Sb h' lo 54 5 id U a ∧ Stay U h h' := by
  obtain ⟨⟨adr, w, o, ha, b, hw, hn⟩, hself, hlo⟩ := s
  refine fn_go c42 (by intro hb; cases hb) (by simp) (by simp) fun Q hQ => ?_
  simp only [slotsF, Nat.reduceAdd]
  have or := o.own.row
  rcases ha with rfl | rfl
  · repeat' (first
      | refine St.h ?_
      | simp (disch := first | omega | (simp only [lnv]; omega)) only [wlk, ↓get_put', ↓reduceIte, seval, or.l1, or_ptr, h2_ptr00, h2_ptr01, h2_ptr10, h2_ptr11, or_p2u, or_u2p, o.pu, o.up]
      | (with_reducible (first | apply cd_split | apply gd_split)) <;> (intro hc; (try simp only [hcn] at hc); (try simp only [hc]); (try simp only [hcl] at hc); try omega))
    refine ST.ownE (y := .p id 0 0 2) o rfl rfl (by omega) (by omega) fun h' o' s' => ?_
    repeat' (first
      | refine St.h ?_
      | simp (disch := first | omega | (simp only [lnv]; omega)) only [wlk, ↓get_put', ↓reduceIte, seval]
      | (with_reducible (first | apply cd_split | apply gd_split)) <;> (intro hc; (try simp only [hcn] at hc); (try simp only [hc]); (try simp only [hcl] at hc); try omega))
    subst hQ
    exact ⟨⟨⟨.p id 0 0 2, w, o', .inr rfl, b.stay s' (fun i hi e => hn (by rw [← e]; exact hi)), hw, hn⟩, hself, fun i hi => ⟨(hlo i hi).1, Nat.lt_of_lt_of_le (hlo i hi).2 s'.next⟩⟩, s'.mono fun i _ hi => by rw [hi]; exact hself⟩
  · repeat' (first
      | refine St.h ?_
      | simp (disch := first | omega | (simp only [lnv]; omega)) only [wlk, ↓get_put', ↓reduceIte, seval, or.l1, or_ptr, h2_ptr00, h2_ptr01, h2_ptr10, h2_ptr11]
      | (with_reducible (first | apply cd_split | apply gd_split)) <;> (intro hc; (try simp only [hcn] at hc); (try simp only [hc]); (try simp only [hcl] at hc); try omega))
    subst hQ
    exact ⟨⟨⟨.p id 0 0 2, w, o, .inr rfl, b, hw, hn⟩, hself, hlo⟩, Stay.refl _ _⟩
theorem bld_end {h h1 h2 h3 : H} {w w' adr : V} {c : List UInt8} (hself : U id) (hlo : ∀ i, U i → lo ≤ B.val i ∧ B.val i < B.val h1.next) (hw : ∀ i, isOf w i → U i) (hn : ¬ isOf w id) (hidlt : B.val id < B.val h1.next)
    (ha : adr = .p0 ∨ adr = .p id 0 0 2) (st1 : Stay U h h1) (b2 : Buf h2 5 1 w' ((a ++ c).map bv)) (st2 : Stay (isOf w) h1 h2) (hw2 : ∀ i, isOf w' i → isOf w i ∨ B.val h1.next ≤ B.val i) (o3 : OwnE h3 id 54 [adr, w']) (st3 : Stay (fun i => i = id) h2 h3) :
    ∃ U', Sb h3 lo 54 5 id U' (a ++ c) ∧ Stay U h h3 ∧ ∀ i, U' i → U i ∨ B.val h.next ≤ B.val i := by
  have hn2 : ¬ isOf w' id := fun e => by
    rcases hw2 _ e with h7 | h7
    · exact hn h7
    · omega
  have hlo0 := (hlo _ hself).1
  refine ⟨fun i => U i ∨ isOf w' i, ⟨⟨adr, w', o3, ha, b2.stay st3 (fun i hi e => hn2 (by rw [← e]; exact hi)), fun i hi => .inr hi, hn2⟩, .inl hself, ?_⟩, ?_, ?_⟩
  · have n2 := st2.next
    have n3 := st3.next
    rintro i (hi | hi)
    · have := hlo i hi; omega
    · have h8 := b2.own hi
      rcases hw2 _ hi with h7 | h7
      · have := hlo i (hw i h7); omega
      · omega
  · exact (st1.trans (st2.mono fun i _ hi => hw i hi)).trans (st3.mono fun i _ hi => by rw [hi]; exact hself)
  · have n1 := st1.next
    rintro i (hi | hi)
    · exact .inl hi
    · rcases hw2 _ hi with h7 | h7
      · exact .inl (hw i h7)
      · exact .inr (by omega)
theorem writeString_ok {c : List UInt8} (s : Sb h lo 54 5 id U a) (hl : a.length + c.length ≤ 1048576) (hf : B.val h.floor ≤ B.val h.next) : FnOk Try.prog 23 [.p id 0 0 2, sv c] h fun y h' => ∃ U', Sb h' lo 54 5 id U' (a ++ c) ∧ Stay U h h' ∧ ∀ i, U' i → U i ∨ B.val h.next ≤ B.val i := by
  refine fn_go c23 (by intro hb; cases hb) (by simp) (by simp) fun Q hQ => ?_
  simp only [slotsF, Nat.reduceAdd]
  repeat' (first
    | refine St.h ?_
    | simp (disch := first | omega | (simp only [lnv]; omega)) only [wlk, ↓get_put', ↓reduceIte, seval]
    | (with_reducible (first | apply cd_split | apply gd_split)) <;> (intro hc; (try simp only [hcn] at hc); (try simp only [hc]); (try simp only [hcl] at hc); try omega))
  refine CL.mk (copyCheck_ok s) ?_
  rintro _ h1 ⟨⟨⟨adr, w, o, ha, b, hw, hn⟩, hself, hlo⟩, st1⟩
  have or := o.own.row
  repeat' (first
    | refine St.h ?_
    | simp (disch := first | omega | (simp only [lnv]; omega)) only [wlk, ↓get_put', ↓reduceIte, seval, or.l1]
    | (with_reducible (first | apply cd_split | apply gd_split)) <;> (intro hc; (try simp only [hcn] at hc); (try simp only [hc]); (try simp only [hcl] at hc); try omega))
  refine AS.buf b (st1.fl hf) hl fun w' h2 b2 st2 hw2 tp => ?_
  have o2 := o.stay st2 hn
  obtain ⟨c1, c2, _⟩ := buf_cells b2
  repeat' (first
    | refine St.h ?_
    | simp (disch := first | omega | (simp only [lnv]; omega)) only [wlk, ↓get_put', ↓reduceIte, seval]
    | (with_reducible (first | apply cd_split | apply gd_split)) <;> (intro hc; (try simp only [hcn] at hc); (try simp only [hc]); (try simp only [hcl] at hc); try omega))
  refine ST.ownE o2 c1 c2 (by omega) (by omega) fun h3 o3 st3 => ?_
  repeat' (first
    | refine St.h ?_
    | simp (disch := first | omega | (simp only [lnv]; omega)) only [wlk, ↓get_put', ↓reduceIte, seval]
    | (with_reducible (first | apply cd_split | apply gd_split)) <;> (intro hc; (try simp only [hcn] at hc); (try simp only [hc]); (try simp only [hcl] at hc); try omega))
  subst hQ
  exact bld_end hself hlo hw hn o.lt ha st1 b2 st2 hw2 o3 st3
theorem string_ok (s : Sb h lo 54 5 id U a) (hl : a.length ≤ 1048576) : FnOk Try.prog 27 [.p id 0 0 2] h fun y h' => y = sv a ∧ Stay U h h' := by
  refine fn_go c27 (by intro hb; cases hb) (by simp) (by simp) fun Q hQ => ?_
  simp only [slotsF, Nat.reduceAdd]
  obtain ⟨⟨adr, w, o, ha, b, hw, hn⟩, hself, hlo⟩ := s
  have or := o.own.row
  have hln := fun g N => b.lst.ln (P := Try.prog) (h := g) (N := N)
  rw [List.length_map] at hln
  obtain ⟨pv, hpv1, hpv2⟩ : ∃ pv : V, (∀ g N, H1 Try.prog gSData w g N = N.go Try.prog pv g) ∧ ∀ k : V → Bool, (vL w (fun _ => k .p0) fun id g off len fin _ => k (.p id g off fin)) = k pv := by
    rcases b with ⟨rfl, _⟩ | ⟨i, g, n, blk, rfl, b1, _⟩
    · exact ⟨.p0, fun g N => hv_of fun k => rfl, fun k => rfl⟩
    · refine ⟨.p i g 0 _, fun g N => hv_of fun k => ?_, fun k => rfl⟩
      have : Nat.ble 1 n = true := by rw [Nat.ble_eq]; exact b1
      show (ifK (Nat.ble 1 n) fun _ => k (.p i _ 0 _)) = _
      rw [this, ifK_true]
  repeat' (first
    | refine St.h ?_
    | simp (disch := first | omega | (simp only [lnv]; omega)) only [wlk, ↓get_put', ↓reduceIte, seval, or.l1, or_sdata, hpv1, hln, or_ustr]
    | (with_reducible (first | apply cd_split | apply gd_split)) <;> (intro hc; (try simp only [hcn] at hc); (try simp only [hc]); (try simp only [hcl] at hc); try omega))
  obtain ⟨h', e', st'⟩ := ustr_eq b hl (fun _ _ _ _ => false) F.zero (.c pv) (.c (.i .i64 (a.length : Int))) hpv2 rfl
  refine US.of (v := sv a) (h' := h') (fun k => ?_) ?_
  · have := e' k
    simp only [doUStr, oE_eq] at this
    exact this
  repeat' (first
    | refine St.h ?_
    | simp (disch := first | omega | (simp only [lnv]; omega)) only [wlk, ↓get_put', ↓reduceIte, seval]
    | (with_reducible (first | apply cd_split | apply gd_split)) <;> (intro hc; (try simp only [hcn] at hc); (try simp only [hc]); (try simp only [hcl] at hc); try omega))
  subst hQ
  exact ⟨rfl, st'.mono fun i _ hi => hw i hi⟩
end
end Go.Proofs.Ythncpgkpkdolfaa

set_option linter.all false
namespace Go.Ev
open Go
theorem CPS.own {P : Program} {h : H} {N : Nx} {id : B} {el fin : Nat} {xs : List V} {s : List UInt8} {cap : Option Nat} (o : OwnE h id el xs) (hne : 1 ≤ s.length) (hj : s.length ≤ fin) (hfit : s.length < 2 ^ 37)
    (k : ∀ h', OwnE h' id el (s.map bv) → Stay (fun i => i = id) h h' → N.go P (.i .i64 (s.length : Int)) h') : CPS P (.l id 0 0 s.length fin cap) (sv s) h N := by
  obtain ⟨blk, a1, a2, a3, a4, aE, a5, a6, a7⟩ := o
  obtain ⟨next, floor, heap⟩ := h
  obtain ⟨cur, min, sz, cs, bel, fr⟩ := blk
  simp only at a2 a3 a4 aE a7
  subst a2; subst a3; subst a4; subst aE
  have hvl : (s.map bv).length = s.length := List.length_map _
  obtain ⟨tr, t1, t2, t3⟩ := setList_fine (s.map bv) 0 cs (by omega)
  obtain ⟨hp, s1, s2, s3⟩ := setK_ok id (⟨0, 0, sz, tr, bel, 0⟩ : Blk) heap
  have e1 : B.geB floor id = true := by cases floor <;> first | rfl | (show Nat.ble _ _ = true; rw [Nat.ble_eq]; exact a5)
  have e2 : Nat.ble (Nat.add 0 (s.map bv).length) fin = true := by rw [Nat.ble_eq]; show 0 + (s.map bv).length ≤ fin; omega
  have e4 : frOk 0 0 = true := rfl
  have e5 : Nat.beq 0 0 = true := rfl
  have e6 : Nat.ble 0 0 = true := rfl
  have a1' : heap.get id = some ⟨0, 0, sz, cs, bel, 0⟩ := a1
  refine hm_of (v := .i .i64 (s.length : Int)) (h' := ⟨next, floor, hp⟩) (fun q => ?_) (k _ ⟨_, s2, rfl, rfl, rfl, rfl, a5, a6, fun i z hz => by have := t2 i z hz; rwa [Nat.zero_add] at this⟩ ⟨rfl, Nat.le_refl _, fun i _ hi => s3 i hi⟩)
  show natC s.length (fun _ => false) (fun _ => copyToS (sv s) ⟨next, floor, heap⟩ q id 0 0 s.length fin) = _
  obtain ⟨m, hm⟩ : ∃ m, s.length = m + 1 := ⟨s.length - 1, by omega⟩
  have hc : ∀ (z : Unit → Bool) (f : Nat → Bool), natC s.length z f = f (m + 1) := fun z f => by rw [hm]; rfl
  rw [hc]
  unfold copyToS
  show unpK s.length (pk s) [] (fun vs => ifK (Nat.beq s.length s.length) fun _ => store ⟨next, floor, heap⟩ id 0 0 fin vs fun h => q (.i .i64 (.ofNat s.length)) h) = _
  rw [unpK_map _ _ _ _ rfl, List.append_nil, Nat.beq_refl, ifK_true]
  simp only [store, hK_mk, a1', optK_some, blkK_mk, e5, e6, e1, e2, allOne_bv, e4, ifK_true]
  rw [t1, s1]; rfl
theorem US.own {P : Program} {h : H} {N : Nx} {id : B} {el fin : Nat} {a : List UInt8} (o : OwnE h id el (a.map bv)) (hne : 1 ≤ a.length) (hj : a.length ≤ fin) (hl : a.length ≤ 1048576)
    (k : ∀ h', Stay (fun i => i = id) h h' → N.go P (sv a) h') : US P el (.p id 0 0 fin) (.i .i64 (a.length : Int)) h N := by
  have hrow : Row h id 0 0 (a.map bv) := o.own.row
  obtain ⟨blk, a1, a2, a3, a4, aE, a5, a6, a7⟩ := o
  have hld : ∀ k, loadN h id 0 0 fin a.length k = k (a.map bv) := fun k => by
    have := loadN_row (n := (a.map bv).length) (fin := fin) hrow rfl (by intro h0; have := congrArg List.length h0; simp at this; subst this; simp at hne) (by rw [List.length_map]; omega) k
    rwa [List.length_map] at this
  obtain ⟨next, floor, heap⟩ := h
  obtain ⟨cur, min, sz, cells, bel, fr⟩ := blk
  simp only at a2 a3 a4 aE a7
  subst a2; subst a3; subst a4; subst aE
  obtain ⟨hp, s1, s2, s3⟩ := setK_ok id (⟨0, 0, sz, cells, bel, a.length + 2⟩ : Blk) heap
  have a1' : heap.get id = some ⟨0, 0, sz, cells, bel, 0⟩ := a1
  have g2 : Nat.beq bel bel = true := Nat.beq_refl bel
  have g3 : B.geB floor id = true := by cases floor <;> first | rfl | (show Nat.ble _ _ = true; rw [Nat.ble_eq]; exact a5)
  have g4 : Nat.ble 1 a.length = true := by rw [Nat.ble_eq]; exact hne
  have g5 : Nat.ble a.length 1048576 = true := by rw [Nat.ble_eq]; exact hl
  have g6 : Nat.beq 0 0 = true := rfl
  have g7 : Nat.ble 0 0 = true := rfl
  refine US.of (v := sv a) (h' := ⟨next, floor, hp⟩) (fun q => ?_) (k _ ⟨rfl, Nat.le_refl _, fun i _ hi => s3 i hi⟩)
  simp only [vI_i, kdEq_self, ifK_true, natK_cast, vPZ_p]
  unfold uStrK
  rw [g6, ifK_true, g4, ifK_true, g5, ifK_true]
  simp only [elK, hK_mk, a1', optK_some, blkK_mk, g7, g2, ifK_true]
  rw [hld, pack_bv]
  have e0 : 0 * 256 ^ a.length + pk a = pk a := by rw [Nat.zero_mul, Nat.zero_add]
  rw [e0]
  simp only [freezeK, hK_mk, a1', optK_some, blkK_mk, g3, ifK_true]
  show fN (Nat.add a.length 2) (fun fr' => T.setK id ⟨0, 0, sz, cells, bel, fr'⟩ heap fun heap => q (.s a.length (pk a)) ⟨next, floor, heap⟩) = _
  rw [fN_eq]
  exact s1 _
theorem Own.ra3 {h : H} {Q : V → H → Prop} {id : B} {a b c : V} {us : List V} (o : Own h id [a, b, c]) : RA Q 3 (.p id 0 0 3) us h = Q (one (.a [a, b, c] :: us)) h := o.ra rfl (by omega) (by omega)
end Go.Ev

set_option maxRecDepth 1000000
namespace Go.Proofs.Ythncpgkpkdolfaa.ravelinlaw12
open Go.Ev
theorem known_run : runFn noTb Try.prog 1000 7 [] = true := by kernel_rfl
theorem known_pure : PureTrue Try.prog 7 := pure_of (noTb_ok _) (Checked.mixed Try.checked) known_run
end Go.Proofs.Ythncpgkpkdolfaa.ravelinlaw12

set_option maxRecDepth 100000
set_option maxHeartbeats 8000000
set_option linter.all false
namespace Go.Proofs.Ythncpgkpkdolfaa
open Go Go.Ev
theorem known12 {h : H} : FnOk Try.prog 7 [] h fun y h' => y = .b true ∧ h' = h := FnOk.of_pure ravelinlaw12.known_pure h
theorem bis_ok {h : H} {v : V} {L : List Wri} (hL : Ws h v L) (hl : L.length ≤ 10000) (hf : B.val h.floor ≤ B.val h.next) : FnOk Try.prog 15 [v] h fun y h' => y = .b (isB L) ∧ Stay nowhere h h' := by
  refine fn_go c15 (by intro hb; cases hb) (by simp) (by simp) fun Q hQ => ?_
  simp only [slotsF, Nat.reduceAdd]
  by_cases h8 : 8 < L.length
  · have d1 : ((8 : Int) < (L.length : Int)) = True := eq_true (by omega)
    repeat' (first
      | refine St.h ?_
      | simp (disch := first | omega | (simp only [lnv]; omega)) only [wlk, ↓get_put', ↓reduceIte, seval, hL.ln, d1]
      | (with_reducible (first | apply cd_split | apply gd_split)) <;> (intro hc; (try simp only [hcn] at hc); (try simp only [hc]); (try simp only [hcl] at hc); try omega))
    subst hQ
    exact ⟨by unfold isB; rw [decide_eq_false (by omega), Bool.and_false], Stay.refl _ _⟩
  have d1 : ((8 : Int) < (L.length : Int)) = False := eq_false (by omega)
  repeat' (first
    | refine St.h ?_
    | simp (disch := first | omega | (simp only [lnv]; omega)) only [wlk, ↓get_put', ↓reduceIte, seval, hL.ln, d1]
    | (with_reducible (first | apply cd_split | apply gd_split)) <;> (intro hc; (try simp only [hcn] at hc); (try simp only [hc]); (try simp only [hcl] at hc); try omega))
  refine Ok.lp (fun m t g => ∃ j : Nat, m = L.length - j ∧ j ≤ L.length ∧ Stay nowhere h g ∧ upU L j = true ∧ get 0 t = v ∧ get 8 t = v ∧ get 9 t = .i .i64 (L.length : Int) ∧ get 10 t = .i .i64 (j : Int)) L.length ?_ ?_
  · simp (disch := first | omega | (simp only [lnv]; omega)) only [wlk, ↓get_put', ↓reduceIte, seval]
    refine ⟨0, by omega, by omega, Stay.refl _ _, rfl, ?_⟩
    repeat' (first | trivial | rfl | refine And.intro ?_ ?_)
  rintro I hI m t g ⟨j, rfl, hj, st, hs, f0, f8, f9, f10⟩
  have hLg := hL.grow st
  have hfg := st.fl hf
  by_cases hjl : j < L.length
  case neg =>
    obtain rfl : j = L.length := by omega
    have d2 : ((L.length : Int) < (L.length : Int)) = False := eq_false (by omega)
    repeat' (first
      | refine St.h ?_
      | simp (disch := first | omega | (simp only [lnv]; omega)) only [wlk, ↓get_put', ↓reduceIte, seval, f0, f8, f9, f10, d2]
      | (with_reducible (first | apply cd_split | apply gd_split)) <;> (intro hc; (try simp only [hcn] at hc); (try simp only [hc]); (try simp only [hcl] at hc); try omega))
    subst hQ
    exact ⟨by unfold isB; rw [hs, decide_eq_true (by omega)]; rfl, st⟩
  have d2 : ((j : Int) < (L.length : Int)) = True := eq_true (by omega)
  repeat' (first
    | refine St.h ?_
    | simp (disch := first | omega | (simp only [lnv]; omega)) only [wlk, ↓get_put', ↓reduceIte, seval, f0, f8, f9, f10, d2, hLg.ix, hLg.la, Int.toNat_natCast]
    | (with_reducible (first | apply cd_split | apply gd_split)) <;> (intro hc; (try simp only [hcn] at hc); (try simp only [hc]); (try simp only [hcl] at hc); try omega))
  refine AL.own (by simp) hfg fun g1 t1 _ o1 => ?_
  have hf1 := t1.fl hfg
  repeat' (first
    | refine St.h ?_
    | simp (disch := first | omega | (simp only [lnv]; omega)) only [wlk, ↓get_put', ↓reduceIte, seval, f0, f8, f9, f10]
    | (with_reducible (first | apply cd_split | apply gd_split)) <;> (intro hc; (try simp only [hcn] at hc); (try simp only [hc]); (try simp only [hcl] at hc); try omega))
  refine ST.all o1 rfl rfl (by simp) (by simp) fun g2 o2 t2 => ?_
  have hf2 := t2.fl hf1
  have tt : Stay nowhere g g2 := t1.past' t2 fun q hq => by rw [hq]; exact Nat.le_refl _
  have r2 := o2.row
  repeat' (first
    | refine St.h ?_
    | simp (disch := first | omega | (simp only [lnv]; omega)) only [wlk, ↓get_put', ↓reduceIte, seval, f0, f8, f9, f10, r2.ln]
    | (with_reducible (first | apply cd_split | apply gd_split)) <;> (intro hc; (try simp only [hcn] at hc); (try simp only [hc]); (try simp only [hcl] at hc); try omega))
  refine CL.stay (isWrite_ok hf2) fun g3 t3 => ?_
  have t4 := tt.trans t3
  have L3 := hLg.grow t4
  have o3 := o2.stay t3 fun h => h
  have r3 := o3.row
  have st3 := st.trans t4
  cases hw : isW (L.getD j default).key (L.getD j default).del (L.getD j default).val with
  | false =>
    have hn : isB L = false := upU_no hjl (by unfold upA isR; rw [hw]; rfl)
    repeat' (first
      | refine St.h ?_
      | simp (disch := first | omega | (simp only [lnv]; omega)) only [wlk, ↓get_put', ↓reduceIte, seval, f0, f8, f9, f10]
      | (with_reducible (first | apply cd_split | apply gd_split)) <;> (intro hc; (try simp only [hcn] at hc); (try simp only [hc]); (try simp only [hcl] at hc); try omega))
    subst hQ
    exact ⟨by rw [hn], st3⟩
  | true =>
  by_cases h0 : j = 0
  · have hu : upA L j = true := by unfold upA isR; rw [hw, decide_eq_true h0]; rfl
    have hz : ((0 : Int) < (j : Int)) = False := eq_false (by omega)
    repeat' (first
      | refine St.h ?_
      | simp (disch := first | omega | (simp only [lnv]; omega)) only [wlk, ↓get_put', ↓reduceIte, seval, f0, f8, f9, f10, hz]
      | (with_reducible (first | apply cd_split | apply gd_split)) <;> (intro hc; (try simp only [hcn] at hc); (try simp only [hc]); (try simp only [hcl] at hc); try omega))
    refine lp_next hI (L.length - (j + 1)) (by omega) ⟨j + 1, rfl, by omega, st3, by rw [upU_succ, hs, hu]; rfl, by simp (disch := first | omega | (simp only [lnv]; omega)) only [wlk, ↓get_put', ↓reduceIte, seval, f0], by simp (disch := first | omega | (simp only [lnv]; omega)) only [wlk, ↓get_put', ↓reduceIte, seval, f8], by simp (disch := first | omega | (simp only [lnv]; omega)) only [wlk, ↓get_put', ↓reduceIte, seval, f9], by simp (disch := first | omega | (simp only [lnv]; omega)) only [wlk, ↓get_put', ↓reduceIte, seval, f10]; rfl⟩
  · have ek : ((j : Int) - 1).toNat = j - 1 := by omega
    have hz : ((0 : Int) < (j : Int)) = True := eq_true (by omega)
    have hu : upA L j = Op.bytesLess (L.getD (j - 1) default).key (L.getD j default).key := by unfold upA isR; rw [hw, decide_eq_false h0]; rfl
    cases hk : Op.bytesLess (L.getD (j - 1) default).key (L.getD j default).key with
    | false =>
      have hn : isB L = false := upU_no hjl (by rw [hu, hk])
      repeat' (first
        | refine St.h ?_
        | simp (disch := first | omega | (simp only [lnv]; omega)) only [wlk, ↓get_put', ↓reduceIte, seval, f0, f8, f9, f10, hz, ek, L3.ix, L3.l0, r3.l1, hk]
        | (with_reducible (first | apply cd_split | apply gd_split)) <;> (intro hc; (try simp only [hcn] at hc); (try simp only [hc]); (try simp only [hcl] at hc); try omega))
      subst hQ
      exact ⟨by rw [hn], st3⟩
    | true =>
      repeat' (first
        | refine St.h ?_
        | simp (disch := first | omega | (simp only [lnv]; omega)) only [wlk, ↓get_put', ↓reduceIte, seval, f0, f8, f9, f10, hz, ek, L3.ix, L3.l0, r3.l1, hk]
        | (with_reducible (first | apply cd_split | apply gd_split)) <;> (intro hc; (try simp only [hcn] at hc); (try simp only [hc]); (try simp only [hcl] at hc); try omega))
      refine lp_next hI (L.length - (j + 1)) (by omega) ⟨j + 1, rfl, by omega, st3, by rw [upU_succ, hs, hu, hk]; rfl, by simp (disch := first | omega | (simp only [lnv]; omega)) only [wlk, ↓get_put', ↓reduceIte, seval, f0], by simp (disch := first | omega | (simp only [lnv]; omega)) only [wlk, ↓get_put', ↓reduceIte, seval, f8], by simp (disch := first | omega | (simp only [lnv]; omega)) only [wlk, ↓get_put', ↓reduceIte, seval, f9], by simp (disch := first | omega | (simp only [lnv]; omega)) only [wlk, ↓get_put', ↓reduceIte, seval, f10]; rfl⟩
theorem blay_ok {h : H} {w : Wri} (hk : w.key.length ≤ 1000) (hv : w.val.length ≤ 1000) (hf : B.val h.floor ≤ B.val h.next) : FnOk Try.prog 25 [.a [sv w.key, .b w.del, sv w.val]] h fun y h' => y = sv (oneB w) ∧ Stay nowhere h h' := by
  have l1 := textB_len w.key (by omega)
  have l2 := textB_len w.val (by omega)
  refine fn_go c25 (by intro hb; cases hb) (by simp) (by simp) fun Q hQ => ?_
  simp only [slotsF, Nat.reduceAdd]
  repeat' (first
    | refine St.h ?_
    | simp (disch := first | omega | (simp only [lnv]; omega)) only [wlk, ↓get_put', ↓reduceIte, seval]
    | (with_reducible (first | apply cd_split | apply gd_split)) <;> (intro hc; (try simp only [hcn] at hc); (try simp only [hc]); (try simp only [hcl] at hc); try omega))
  refine AL.own (by simp) hf fun h1 s1 n1 o1 => ?_
  have hf1 := s1.fl hf
  cases hd : w.del with
  | true =>
    have hb : oneB w = textB w.key ++ [1] := by unfold oneB; rw [hd]; rfl
    repeat' (first
      | refine St.h ?_
      | simp (disch := first | omega | (simp only [lnv]; omega)) only [wlk, ↓get_put', ↓reduceIte, seval, o1.row.l1, hd]
      | (with_reducible (first | apply cd_split | apply gd_split)) <;> (intro hc; (try simp only [hcn] at hc); (try simp only [hc]); (try simp only [hcl] at hc); try omega))
    refine CL.stayU (text_ok (by omega) (re_fl _)) fun h3 s3 => ?_
    have hf3 := s3.fl hf1
    repeat' (first
      | refine St.h ?_
      | simp (disch := first | omega | (simp only [lnv]; omega)) only [wlk, ↓get_put', ↓reduceIte, seval]
      | (with_reducible (first | apply cd_split | apply gd_split)) <;> (intro hc; (try simp only [hcn] at hc); (try simp only [hc]); (try simp only [hcl] at hc); try omega))
    refine AL.strU (bs := [1]) rfl (by simp) rfl rfl (by simp) hf3 fun h5 u5 s5 => ?_
    repeat' (first
      | refine St.h ?_
      | simp (disch := first | omega | (simp only [lnv]; omega)) only [wlk, ↓get_put', ↓reduceIte, seval]
      | (with_reducible (first | apply cd_split | apply gd_split)) <;> (intro hc; (try simp only [hcn] at hc); (try simp only [hc]); (try simp only [hcl] at hc); try omega))
    subst hQ
    exact ⟨by rw [hb], (s1.trans s3).trans s5⟩
  | false =>
    have hb : oneB w = textB w.key ++ 0 :: textB w.val := by unfold oneB; rw [hd]; rfl
    repeat' (first
      | refine St.h ?_
      | simp (disch := first | omega | (simp only [lnv]; omega)) only [wlk, ↓get_put', ↓reduceIte, seval, o1.row.l1, hd]
      | (with_reducible (first | apply cd_split | apply gd_split)) <;> (intro hc; (try simp only [hcn] at hc); (try simp only [hc]); (try simp only [hcl] at hc); try omega))
    refine CL.stayU (text_ok (by omega) (re_fl _)) fun h3 s3 => ?_
    have o3 := o1.stay s3 fun h => h
    have hf3 := s3.fl hf1
    repeat' (first
      | refine St.h ?_
      | simp (disch := first | omega | (simp only [lnv]; omega)) only [wlk, ↓get_put', ↓reduceIte, seval]
      | (with_reducible (first | apply cd_split | apply gd_split)) <;> (intro hc; (try simp only [hcn] at hc); (try simp only [hc]); (try simp only [hcl] at hc); try omega))
    refine AL.strU (bs := [0]) rfl (by simp) rfl rfl (by simp) hf3 fun h5 u5 s5 => ?_
    have o5 := o3.stay s5 fun h => h
    have hf5 := s5.fl hf3
    repeat' (first
      | refine St.h ?_
      | simp (disch := first | omega | (simp only [lnv]; omega)) only [wlk, ↓get_put', ↓reduceIte, seval, o5.row.l1]
      | (with_reducible (first | apply cd_split | apply gd_split)) <;> (intro hc; (try simp only [hcn] at hc); (try simp only [hc]); (try simp only [hcl] at hc); try omega))
    refine CL.stayU (text_ok (by omega) (re_fl _)) fun h6 s6 => ?_
    repeat' (first
      | refine St.h ?_
      | simp (disch := first | omega | (simp only [lnv]; omega)) only [wlk, ↓get_put', ↓reduceIte, seval]
      | (with_reducible (first | apply cd_split | apply gd_split)) <;> (intro hc; (try simp only [hcn] at hc); (try simp only [hc]); (try simp only [hcl] at hc); try omega))
    subst hQ
    exact ⟨by rw [hb]; simp, ((s1.trans s3).trans s5).trans s6⟩
theorem bbytes_ok {h : H} {v : V} {seq : Int} {L : List Wri} (hL : Ws h v L) (hl : L.length ≤ 10000) (hs : -9223372036854775808 ≤ seq) (hs2 : seq ≤ 9223372036854775807) (hf : B.val h.floor ≤ B.val h.next) : FnOk Try.prog 9 [.i .i64 seq, v] h fun y h' => y = .tu [sv (bytB seq L).1, .i .i64 (bytB seq L).2] ∧ Stay nowhere h h' := by
  refine fn_go c9 (by intro hb; cases hb) (by simp) (by simp) fun Q hQ => ?_
  simp only [slotsF, Nat.reduceAdd]
  repeat' (first
    | refine St.h ?_
    | simp (disch := first | omega | (simp only [lnv]; omega)) only [wlk, ↓get_put', ↓reduceIte, seval]
    | (with_reducible (first | apply cd_split | apply gd_split)) <;> (intro hc; (try simp only [hcn] at hc); (try simp only [hc]); (try simp only [hcl] at hc); try omega))
  refine CL.stay (bis_ok hL hl hf) fun h1 s1 => ?_
  have hf1 := s1.fl hf
  have hL1 := hL.grow s1
  have hno : okB12 seq L = false → bytB seq L = ([], 10) := fun e => by unfold bytB; rw [e]; rfl
  cases hB : isB L with
  | false =>
    have e := hno (by unfold okB12; rw [hB]; rfl)
    repeat' (first
      | refine St.h ?_
      | simp (disch := first | omega | (simp only [lnv]; omega)) only [wlk, ↓get_put', ↓reduceIte, seval]
      | (with_reducible (first | apply cd_split | apply gd_split)) <;> (intro hc; (try simp only [hcn] at hc); (try simp only [hc]); (try simp only [hcl] at hc); try omega))
    subst hQ
    exact ⟨by rw [e], s1⟩
  | true =>
  by_cases q1 : seq < 1
  · have e := hno (by unfold okB12; rw [hB, decide_eq_false (by omega)]; rfl)
    repeat' (first
      | refine St.h ?_
      | simp (disch := first | omega | (simp only [lnv]; omega)) only [wlk, ↓get_put', ↓reduceIte, seval]
      | (with_reducible (first | apply cd_split | apply gd_split)) <;> (intro hc; (try simp only [hcn] at hc); (try simp only [hc]); (try simp only [hcl] at hc); try omega))
    subst hQ
    exact ⟨by rw [e], s1⟩
  by_cases q2 : 1000000 < seq
  · have e := hno (by unfold okB12; rw [hB, decide_eq_false (by omega)]; rfl)
    repeat' (first
      | refine St.h ?_
      | simp (disch := first | omega | (simp only [lnv]; omega)) only [wlk, ↓get_put', ↓reduceIte, seval]
      | (with_reducible (first | apply cd_split | apply gd_split)) <;> (intro hc; (try simp only [hcn] at hc); (try simp only [hc]); (try simp only [hcl] at hc); try omega))
    subst hQ
    exact ⟨by rw [e], s1⟩
  have e : bytB seq L = (batB seq L, 0) := by unfold bytB okB12; rw [hB, decide_eq_true (by omega)]; rfl
  have ln := numB_len (n := seq.toNat) (by omega)
  have ln2 := numB_len (n := L.length) (by omega)
  have lr := rowsB_len hB
  have en : ((L.length : Int)).toNat = L.length := by omega
  repeat' (first
    | refine St.h ?_
    | simp (disch := first | omega | (simp only [lnv]; omega)) only [wlk, ↓get_put', ↓reduceIte, seval]
    | (with_reducible (first | apply cd_split | apply gd_split)) <;> (intro hc; (try simp only [hcn] at hc); (try simp only [hc]); (try simp only [hcl] at hc); try omega))
  refine AL.ownE (by simp) hf1 fun h2 s2 n2 o2 => ?_
  have hf2 := s2.fl hf1
  have sb : Sb h2 (B.val h1.next) 54 5 h1.next (fun i => i = h1.next) [] :=
    ⟨⟨.p0, .l0, o2, .inl rfl, Buf.nil _ _ _, fun i hi => absurd hi (by rintro ⟨_, _, _, _, _, e⟩; cases e), by rintro ⟨_, _, _, _, _, e⟩; cases e⟩, rfl, fun i hi => by rw [hi]; exact ⟨Nat.le_refl _, by omega⟩⟩
  repeat' (first
    | refine St.h ?_
    | simp (disch := first | omega | (simp only [lnv]; omega)) only [wlk, ↓get_put', ↓reduceIte, seval]
    | (with_reducible (first | apply cd_split | apply gd_split)) <;> (intro hc; (try simp only [hcn] at hc); (try simp only [hc]); (try simp only [hcl] at hc); try omega))
  refine CL.stay (num_ok (by omega) hf2) fun h3 s3 => ?_
  have hf3 := s3.fl hf2
  have sb3 := sb.stay s3 fun _ _ h => h
  have a3 := s2.trans s3
  repeat' (first
    | refine St.h ?_
    | simp (disch := first | omega | (simp only [lnv]; omega)) only [wlk, ↓get_put', ↓reduceIte, seval]
    | (with_reducible (first | apply cd_split | apply gd_split)) <;> (intro hc; (try simp only [hcn] at hc); (try simp only [hc]); (try simp only [hcl] at hc); try omega))
  refine CL.mk (writeString_ok sb3 (by simp; omega) hf3) ?_
  rintro _ h4 ⟨U4, sb4, s4, hU4⟩
  have hf4 := s4.fl hf3
  have a4 := a3.past' s4 fun q hq => (sb3.lo q hq).1
  have hL4 := hL1.grow a4
  repeat' (first
    | refine St.h ?_
    | simp (disch := first | omega | (simp only [lnv]; omega)) only [wlk, ↓get_put', ↓reduceIte, seval, hL4.ln]
    | (with_reducible (first | apply cd_split | apply gd_split)) <;> (intro hc; (try simp only [hcn] at hc); (try simp only [hc]); (try simp only [hcl] at hc); try omega))
  refine CL.stay (num_ok (by omega) hf4) fun h5 s5 => ?_
  have hf5 := s5.fl hf4
  have sb5 := sb4.stay s5 fun _ _ h => h
  have a5 := a4.trans s5
  repeat' (first
    | refine St.h ?_
    | simp (disch := first | omega | (simp only [lnv]; omega)) only [wlk, ↓get_put', ↓reduceIte, seval, en]
    | (with_reducible (first | apply cd_split | apply gd_split)) <;> (intro hc; (try simp only [hcn] at hc); (try simp only [hc]); (try simp only [hcl] at hc); try omega))
  refine CL.mk (writeString_ok sb5 (by simp; omega) hf5) ?_
  rintro _ h6 ⟨U6, sb6, s6, hU6⟩
  have hf6 := s6.fl hf5
  have a6 := a5.past' s6 fun q hq => (sb5.lo q hq).1
  have hL6 := hL1.grow a6
  repeat' (first
    | refine St.h ?_
    | simp (disch := first | omega | (simp only [lnv]; omega)) only [wlk, ↓get_put', ↓reduceIte, seval, hL6.ln]
    | (with_reducible (first | apply cd_split | apply gd_split)) <;> (intro hc; (try simp only [hcn] at hc); (try simp only [hc]); (try simp only [hcl] at hc); try omega))
  refine Ok.lp (fun m t g => ∃ (j : Nat) (U : B → Prop), m = L.length - j ∧ j ≤ L.length ∧ Stay nowhere h1 g ∧ Sb g (B.val h1.next) 54 5 h1.next U (numB seq.toNat ++ (numB L.length ++ (L.take j).flatMap oneB)) ∧ get 6 t = .p h1.next 0 0 2 ∧ get 27 t = v ∧ get 28 t = .i .i64 (L.length : Int) ∧ get 29 t = .i .i64 (j : Int)) L.length ?_ ?_
  · simp (disch := first | omega | (simp only [lnv]; omega)) only [wlk, ↓get_put', ↓reduceIte, seval]
    refine ⟨0, U6, by omega, by omega, a6, by simpa using sb6, ?_⟩
    repeat' (first | trivial | rfl | refine And.intro ?_ ?_)
  rintro I hI m t g ⟨j, U, rfl, hj, st, sbg, f6, f27, f28, f29⟩
  have hfg := st.fl hf1
  have hLg := hL1.grow st
  have hrl := rows_len hB hj
  by_cases hjl : j < L.length
  case neg =>
    obtain rfl : j = L.length := by omega
    have d1 : ((L.length : Int) < (L.length : Int)) = False := eq_false (by omega)
    rw [List.take_length] at sbg
    repeat' (first
      | refine St.h ?_
      | simp (disch := first | omega | (simp only [lnv]; omega)) only [wlk, ↓get_put', ↓reduceIte, seval, f6, f27, f28, f29, d1]
      | (with_reducible (first | apply cd_split | apply gd_split)) <;> (intro hc; (try simp only [hcn] at hc); (try simp only [hc]); (try simp only [hcl] at hc); try omega))
    refine CL.mk (string_ok sbg (by have : (numB L.length ++ L.flatMap oneB).length ≤ 500 := lr; rw [List.length_append]; omega)) ?_
    rintro _ g2 ⟨rfl, t2⟩
    have st2 := st.past' t2 fun i hi => (sbg.lo i hi).1
    repeat' (first
      | refine St.h ?_
      | simp (disch := first | omega | (simp only [lnv]; omega)) only [wlk, ↓get_put', ↓reduceIte, seval]
      | (with_reducible (first | apply cd_split | apply gd_split)) <;> (intro hc; (try simp only [hcn] at hc); (try simp only [hc]); (try simp only [hcl] at hc); try omega))
    refine CL.stay (seal_ok (by have : (numB L.length ++ L.flatMap oneB).length ≤ 500 := lr; rw [List.length_append]; omega) (st2.fl hf1)) fun g3 t3 => ?_
    repeat' (first
      | refine St.h ?_
      | simp (disch := first | omega | (simp only [lnv]; omega)) only [wlk, ↓get_put', ↓reduceIte, seval]
      | (with_reducible (first | apply cd_split | apply gd_split)) <;> (intro hc; (try simp only [hcn] at hc); (try simp only [hc]); (try simp only [hcl] at hc); try omega))
    subst hQ
    exact ⟨by rw [e]; rfl, s1.trans (st2.trans t3)⟩
  have d1 : ((j : Int) < (L.length : Int)) = True := eq_true (by omega)
  have hr := isR_len (upA_is (isB_up hB hjl))
  have h1l := oneB_len (upA_is (isB_up hB hjl))
  have hcat := rowsB_take hjl
  repeat' (first
    | refine St.h ?_
    | simp (disch := first | omega | (simp only [lnv]; omega)) only [wlk, ↓get_put', ↓reduceIte, seval, f6, f27, f28, f29, d1, hLg.ix, hLg.la, Int.toNat_natCast]
    | (with_reducible (first | apply cd_split | apply gd_split)) <;> (intro hc; (try simp only [hcn] at hc); (try simp only [hc]); (try simp only [hcl] at hc); try omega))
  refine AL.own (by simp) hfg fun g1 t1 _ o1 => ?_
  have hf1' := t1.fl hfg
  repeat' (first
    | refine St.h ?_
    | simp (disch := first | omega | (simp only [lnv]; omega)) only [wlk, ↓get_put', ↓reduceIte, seval, f6, f27, f28, f29]
    | (with_reducible (first | apply cd_split | apply gd_split)) <;> (intro hc; (try simp only [hcn] at hc); (try simp only [hc]); (try simp only [hcl] at hc); try omega))
  refine ST.all o1 rfl rfl (by simp) (by simp) fun g2 o2 t2 => ?_
  have hf2' := t2.fl hf1'
  have tt : Stay nowhere g g2 := t1.past' t2 fun q hq => by rw [hq]; exact Nat.le_refl _
  have sb2 := sbg.stay tt fun _ _ h => h
  repeat' (first
    | refine St.h ?_
    | simp (disch := first | omega | (simp only [lnv]; omega)) only [wlk, ↓get_put', ↓reduceIte, seval, f6, f27, f28, f29, o2.row.ln]
    | (with_reducible (first | apply cd_split | apply gd_split)) <;> (intro hc; (try simp only [hcn] at hc); (try simp only [hc]); (try simp only [hcl] at hc); try omega))
  refine CL.stay (blay_ok (w := L.getD j default) (by omega) (by omega) hf2') fun g3 t3 => ?_
  have sb3 := sb2.stay t3 fun _ _ h => h
  repeat' (first
    | refine St.h ?_
    | simp (disch := first | omega | (simp only [lnv]; omega)) only [wlk, ↓get_put', ↓reduceIte, seval, f6, f27, f28, f29]
    | (with_reducible (first | apply cd_split | apply gd_split)) <;> (intro hc; (try simp only [hcn] at hc); (try simp only [hc]); (try simp only [hcl] at hc); try omega))
  refine CL.mk (writeString_ok sb3 (by simp only [List.length_append]; omega) (t3.fl hf2')) ?_
  rintro _ g4 ⟨U4, sb4, t4, hU4⟩
  repeat' (first
    | refine St.h ?_
    | simp (disch := first | omega | (simp only [lnv]; omega)) only [wlk, ↓get_put', ↓reduceIte, seval, f6, f27, f28, f29]
    | (with_reducible (first | apply cd_split | apply gd_split)) <;> (intro hc; (try simp only [hcn] at hc); (try simp only [hc]); (try simp only [hcl] at hc); try omega))
  refine lp_next hI (L.length - (j + 1)) (by omega) ⟨j + 1, U4, rfl, by omega, ((st.trans tt).trans t3).past' t4 fun q hq => (sb3.lo q hq).1, by rw [hcat, ← List.append_assoc]; exact sb4, by simp (disch := first | omega | (simp only [lnv]; omega)) only [wlk, ↓get_put', ↓reduceIte, seval, f6], by simp (disch := first | omega | (simp only [lnv]; omega)) only [wlk, ↓get_put', ↓reduceIte, seval, f27], by simp (disch := first | omega | (simp only [lnv]; omega)) only [wlk, ↓get_put', ↓reduceIte, seval, f28], by simp (disch := first | omega | (simp only [lnv]; omega)) only [wlk, ↓get_put', ↓reduceIte, seval, f29]; rfl⟩
theorem btake_ok {h : H} {s : List UInt8} (hs : s.length ≤ 1000000) (hf : B.val h.floor ≤ B.val h.next) : FnOk Try.prog 49 [sv s] h fun y h' => ∃ (w : Wri) (k : Nat) (b : Bool), y = .tu [.a (wriC w), .i .i64 (k : Int), .b b] ∧ Stay nowhere h h' ∧ (b = false → tkP s = none) ∧ (b = true → tkP s = some (w, k) ∧ 1 ≤ k ∧ k ≤ s.length) := by
  refine fn_go c49 (by intro hb; cases hb) (by simp) (by simp) fun Q hQ => ?_
  simp only [slotsF, Nat.reduceAdd]
  repeat' (first
    | refine St.h ?_
    | simp (disch := first | omega | (simp only [lnv]; omega)) only [wlk, ↓get_put', ↓reduceIte, seval]
    | (with_reducible (first | apply cd_split | apply gd_split)) <;> (intro hc; (try simp only [hcn] at hc); (try simp only [hc]); (try simp only [hcl] at hc); try omega))
  refine AL.own (by simp) hf fun h1 s1 n1 o1 => ?_
  have hf1 := s1.fl hf
  repeat' (first
    | refine St.h ?_
    | simp (disch := first | omega | (simp only [lnv]; omega)) only [wlk, ↓get_put', ↓reduceIte, seval]
    | (with_reducible (first | apply cd_split | apply gd_split)) <;> (intro hc; (try simp only [hcn] at hc); (try simp only [hc]); (try simp only [hcl] at hc); try omega))
  refine CL.pure (takeText_ok hs) ?_
  have hz0 : ((10 : Int) = 0) = False := eq_false (by decide)
  have hz1 : ((12 : Int) = 0) = False := eq_false (by decide)
  have no : ∀ {g : H} {w : Wri} {k : Nat}, Stay nowhere h g → tkP s = none → ∃ (w' : Wri) (k' : Nat) (b : Bool), V.tu [.a [sv w.key, .b w.del, sv w.val], .i .i64 (k : Int), .b false] = .tu [.a (wriC w'), .i .i64 (k' : Int), .b b] ∧ Stay nowhere h g ∧ (b = false → tkP s = none) ∧ (b = true → tkP s = some (w', k') ∧ 1 ≤ k' ∧ k' ≤ s.length) := fun {g w k} st en => ⟨w, k, false, rfl, st, fun _ => en, fun h => by cases h⟩
  have past : ∀ {g2 : H}, Stay (fun i => i = h.next) h1 g2 → Stay nowhere h g2 := fun t2 => s1.past' t2 fun q hq => by rw [hq]; exact Nat.le_refl _
  rcases takeT_range s with (e1 | e1) | ⟨x, q, e1, q1, q2, q3⟩
  · have en : tkP s = none := by unfold tkP; rw [e1]; rfl
    repeat' (first
      | refine St.h ?_
      | simp (disch := first | omega | (simp only [lnv]; omega)) only [wlk, ↓get_put', ↓reduceIte, seval, e1, triT, hz0]
      | (with_reducible (first | apply cd_split | apply gd_split)) <;> (intro hc; (try simp only [hcn] at hc); (try simp only [hc]); (try simp only [hcl] at hc); try omega))
    refine ST.all o1 rfl rfl (by simp) (by simp) fun g2 o2 t2 => ?_
    repeat' (first
      | refine St.h ?_
      | simp (disch := first | omega | (simp only [lnv]; omega)) only [wlk, ↓get_put', ↓reduceIte, seval, o2.row.ln, o2.ra3]
      | (with_reducible (first | apply cd_split | apply gd_split)) <;> (intro hc; (try simp only [hcn] at hc); (try simp only [hc]); (try simp only [hcl] at hc); try omega))
    subst hQ
    exact no (w := ⟨[], false, []⟩) (k := 0) (past t2) en
  · have en : tkP s = none := by unfold tkP; rw [e1]; rfl
    repeat' (first
      | refine St.h ?_
      | simp (disch := first | omega | (simp only [lnv]; omega)) only [wlk, ↓get_put', ↓reduceIte, seval, e1, triT, hz1]
      | (with_reducible (first | apply cd_split | apply gd_split)) <;> (intro hc; (try simp only [hcn] at hc); (try simp only [hc]); (try simp only [hcl] at hc); try omega))
    refine ST.all o1 rfl rfl (by simp) (by simp) fun g2 o2 t2 => ?_
    repeat' (first
      | refine St.h ?_
      | simp (disch := first | omega | (simp only [lnv]; omega)) only [wlk, ↓get_put', ↓reduceIte, seval, o2.row.ln, o2.ra3]
      | (with_reducible (first | apply cd_split | apply gd_split)) <;> (intro hc; (try simp only [hcn] at hc); (try simp only [hc]); (try simp only [hcl] at hc); try omega))
    subst hQ
    exact no (w := ⟨[], false, []⟩) (k := 0) (past t2) en
  by_cases hqe : q = s.length
  · have en : tkP s = none := by unfold tkP; rw [e1, if_pos (Or.inr (by show (q : Int) = (s.length : Int); omega))]
    have hq : ((q : Int) = (s.length : Int)) = True := eq_true (by omega)
    repeat' (first
      | refine St.h ?_
      | simp (disch := first | omega | (simp only [lnv]; omega)) only [wlk, ↓get_put', ↓reduceIte, seval, e1, triT, hq]
      | (with_reducible (first | apply cd_split | apply gd_split)) <;> (intro hc; (try simp only [hcn] at hc); (try simp only [hc]); (try simp only [hcl] at hc); try omega))
    refine ST.all o1 rfl rfl (by simp) (by simp) fun g2 o2 t2 => ?_
    repeat' (first
      | refine St.h ?_
      | simp (disch := first | omega | (simp only [lnv]; omega)) only [wlk, ↓get_put', ↓reduceIte, seval, o2.row.ln, o2.ra3]
      | (with_reducible (first | apply cd_split | apply gd_split)) <;> (intro hc; (try simp only [hcn] at hc); (try simp only [hc]); (try simp only [hcl] at hc); try omega))
    subst hQ
    exact no (w := ⟨[], false, []⟩) (k := 0) (past t2) en
  have hq : ((q : Int) = (s.length : Int)) = False := eq_false (by omega)
  have eq1 : (q : Int).toNat = q := by omega
  have hb := (s.getD q 0).toNat_lt
  have eq2 : ((q : Int) + 1).toNat = q + 1 := by omega
  have hdl : (s.drop (q + 1)).length = s.length - (q + 1) := List.length_drop
  have hT : tkP s = if s.getD q 0 = 0 then
    (if (takeT (s.drop (q + 1))).2.2 ≠ 0 then none else some (⟨x, false, (takeT (s.drop (q + 1))).1⟩, q + 1 + (takeT (s.drop (q + 1))).2.1.toNat))
    else if s.getD q 0 = 1 then some (⟨x, true, []⟩, q + 1) else none := by
    unfold tkP
    rw [e1]
    show (if (0 : Int) ≠ 0 ∨ (q : Int) = (s.length : Int) then none else _) = _
    rw [if_neg (by omega), eq1]
  by_cases c0 : s.getD q 0 = 0
  · have d0 : (((s.getD q 0).toNat : Int) = 0) = True := eq_true (by rw [c0]; rfl)
    rw [if_pos c0] at hT
    repeat' (first
      | refine St.h ?_
      | simp (disch := first | omega | (simp only [lnv]; omega)) only [wlk, ↓get_put', ↓reduceIte, seval, e1, triT, hq, d0, eq2]
      | (with_reducible (first | apply cd_split | apply gd_split)) <;> (intro hc; (try simp only [hcn] at hc); (try simp only [hc]); (try simp only [hcl] at hc); try omega))
    refine CL.pure (takeText_ok (by omega)) ?_
    rcases takeT_range (s.drop (q + 1)) with (e2 | e2) | ⟨x2, r, e2, r1, r2, r3⟩
    · have en : tkP s = none := by rw [hT, e2]; rfl
      repeat' (first
        | refine St.h ?_
        | simp (disch := first | omega | (simp only [lnv]; omega)) only [wlk, ↓get_put', ↓reduceIte, seval, e2, triT, hz0]
        | (with_reducible (first | apply cd_split | apply gd_split)) <;> (intro hc; (try simp only [hcn] at hc); (try simp only [hc]); (try simp only [hcl] at hc); try omega))
      refine ST.all o1 rfl rfl (by simp) (by simp) fun g2 o2 t2 => ?_
      repeat' (first
        | refine St.h ?_
        | simp (disch := first | omega | (simp only [lnv]; omega)) only [wlk, ↓get_put', ↓reduceIte, seval, o2.row.ln, o2.ra3]
        | (with_reducible (first | apply cd_split | apply gd_split)) <;> (intro hc; (try simp only [hcn] at hc); (try simp only [hc]); (try simp only [hcl] at hc); try omega))
      subst hQ
      exact no (w := ⟨x, false, []⟩) (k := q + 1) (past t2) en
    · have en : tkP s = none := by rw [hT, e2]; rfl
      repeat' (first
        | refine St.h ?_
        | simp (disch := first | omega | (simp only [lnv]; omega)) only [wlk, ↓get_put', ↓reduceIte, seval, e2, triT, hz1]
        | (with_reducible (first | apply cd_split | apply gd_split)) <;> (intro hc; (try simp only [hcn] at hc); (try simp only [hc]); (try simp only [hcl] at hc); try omega))
      refine ST.all o1 rfl rfl (by simp) (by simp) fun g2 o2 t2 => ?_
      repeat' (first
        | refine St.h ?_
        | simp (disch := first | omega | (simp only [lnv]; omega)) only [wlk, ↓get_put', ↓reduceIte, seval, o2.row.ln, o2.ra3]
        | (with_reducible (first | apply cd_split | apply gd_split)) <;> (intro hc; (try simp only [hcn] at hc); (try simp only [hc]); (try simp only [hcl] at hc); try omega))
      subst hQ
      exact no (w := ⟨x, false, []⟩) (k := q + 1) (past t2) en
    · have er : (r : Int).toNat = r := by omega
      have en : tkP s = some (⟨x, false, x2⟩, q + 1 + r) := by
        rw [hT, e2]
        show (if (0 : Int) ≠ 0 then none else some ((⟨x, false, x2⟩ : Wri), q + 1 + (r : Int).toNat)) = _
        rw [if_neg (by omega), er]
      repeat' (first
        | refine St.h ?_
        | simp (disch := first | omega | (simp only [lnv]; omega)) only [wlk, ↓get_put', ↓reduceIte, seval, e2, triT]
        | (with_reducible (first | apply cd_split | apply gd_split)) <;> (intro hc; (try simp only [hcn] at hc); (try simp only [hc]); (try simp only [hcl] at hc); try omega))
      refine ST.all o1 rfl rfl (by simp) (by simp) fun g2 o2 t2 => ?_
      repeat' (first
        | refine St.h ?_
        | simp (disch := first | omega | (simp only [lnv]; omega)) only [wlk, ↓get_put', ↓reduceIte, seval, o2.row.ln, o2.ra3]
        | (with_reducible (first | apply cd_split | apply gd_split)) <;> (intro hc; (try simp only [hcn] at hc); (try simp only [hc]); (try simp only [hcl] at hc); try omega))
      subst hQ
      refine ⟨⟨x, false, x2⟩, q + 1 + r, true, rfl, past t2, (fun h => by cases h), fun _ => ⟨en, by omega, by omega⟩⟩
  have d0 : (((s.getD q 0).toNat : Int) = 0) = False := eq_false fun e => c0 (by apply UInt8.toNat_inj.1; show (s.getD q 0).toNat = 0; omega)
  rw [if_neg c0] at hT
  by_cases c1 : s.getD q 0 = 1
  · have d1 : (((s.getD q 0).toNat : Int) = 1) = True := eq_true (by rw [c1]; rfl)
    rw [if_pos c1] at hT
    repeat' (first
      | refine St.h ?_
      | simp (disch := first | omega | (simp only [lnv]; omega)) only [wlk, ↓get_put', ↓reduceIte, seval, e1, triT, hq, d0, d1, eq2]
      | (with_reducible (first | apply cd_split | apply gd_split)) <;> (intro hc; (try simp only [hcn] at hc); (try simp only [hc]); (try simp only [hcl] at hc); try omega))
    refine ST.all o1 rfl rfl (by simp) (by simp) fun g2 o2 t2 => ?_
    repeat' (first
      | refine St.h ?_
      | simp (disch := first | omega | (simp only [lnv]; omega)) only [wlk, ↓get_put', ↓reduceIte, seval, o2.row.ln, o2.ra3]
      | (with_reducible (first | apply cd_split | apply gd_split)) <;> (intro hc; (try simp only [hcn] at hc); (try simp only [hc]); (try simp only [hcl] at hc); try omega))
    subst hQ
    refine ⟨⟨x, true, []⟩, q + 1, true, rfl, past t2, (fun h => by cases h), fun _ => ⟨hT, by omega, by omega⟩⟩
  · have d1 : (((s.getD q 0).toNat : Int) = 1) = False := eq_false fun e => c1 (by apply UInt8.toNat_inj.1; show (s.getD q 0).toNat = 1; omega)
    rw [if_neg c1] at hT
    repeat' (first
      | refine St.h ?_
      | simp (disch := first | omega | (simp only [lnv]; omega)) only [wlk, ↓get_put', ↓reduceIte, seval, e1, triT, hq, d0, d1, eq2]
      | (with_reducible (first | apply cd_split | apply gd_split)) <;> (intro hc; (try simp only [hcn] at hc); (try simp only [hc]); (try simp only [hcl] at hc); try omega))
    refine ST.all o1 rfl rfl (by simp) (by simp) fun g2 o2 t2 => ?_
    repeat' (first
      | refine St.h ?_
      | simp (disch := first | omega | (simp only [lnv]; omega)) only [wlk, ↓get_put', ↓reduceIte, seval, o2.row.ln, o2.ra3]
      | (with_reducible (first | apply cd_split | apply gd_split)) <;> (intro hc; (try simp only [hcn] at hc); (try simp only [hc]); (try simp only [hcl] at hc); try omega))
    subst hQ
    exact no (w := ⟨[], false, []⟩) (k := 0) (past t2) hT
theorem btakeAll_ok {h : H} {s : List UInt8} (hs : s.length ≤ 1000000) (hf : B.val h.floor ≤ B.val h.next) : FnOk Try.prog 32 [sv s] h fun y h' => ∃ u, y = .tu [.i .i64 (taP s).1, u] ∧ Ws h' u (taP s).2 ∧ Stay nowhere h h' := by
  refine fn_go c32 (by intro hb; cases hb) (by simp) (by simp) fun Q hQ => ?_
  simp only [slotsF, Nat.reduceAdd]
  repeat' (first
    | refine St.h ?_
    | simp (disch := first | omega | (simp only [lnv]; omega)) only [wlk, ↓get_put', ↓reduceIte, seval]
    | (with_reducible (first | apply cd_split | apply gd_split)) <;> (intro hc; (try simp only [hcn] at hc); (try simp only [hc]); (try simp only [hcl] at hc); try omega))
  refine CL.pure (takeNum_ok hs) ?_
  have hz0 : ((10 : Int) = 0) = False := eq_false (by decide)
  have hz1 : ((12 : Int) = 0) = False := eq_false (by decide)
  have no : ∀ {g : H}, Stay nowhere h g → taP s = (0, []) → ∃ u, V.tu [.i .i64 0, .l0] = .tu [.i .i64 (taP s).1, u] ∧ Ws g u (taP s).2 ∧ Stay nowhere h g := fun {g} st e => by
    rw [e]; exact ⟨.l0, rfl, Ss.nil, st⟩
  rcases takeN_range s with (e1 | e1) | ⟨z, q, e1, z1, q1, q2, q3⟩
  · have en : taP s = (0, []) := by unfold taP; rw [e1]; rfl
    repeat' (first
      | refine St.h ?_
      | simp (disch := first | omega | (simp only [lnv]; omega)) only [wlk, ↓get_put', ↓reduceIte, seval, e1, tri, hz0]
      | (with_reducible (first | apply cd_split | apply gd_split)) <;> (intro hc; (try simp only [hcn] at hc); (try simp only [hc]); (try simp only [hcl] at hc); try omega))
    subst hQ
    exact no (Stay.refl _ _) en
  · have en : taP s = (0, []) := by unfold taP; rw [e1]; rfl
    repeat' (first
      | refine St.h ?_
      | simp (disch := first | omega | (simp only [lnv]; omega)) only [wlk, ↓get_put', ↓reduceIte, seval, e1, tri, hz1]
      | (with_reducible (first | apply cd_split | apply gd_split)) <;> (intro hc; (try simp only [hcn] at hc); (try simp only [hc]); (try simp only [hcl] at hc); try omega))
    subst hQ
    exact no (Stay.refl _ _) en
  have eq1 : (q : Int).toNat = q := by omega
  have hdl : (s.drop q).length = s.length - q := List.length_drop
  have hT : taP s = if (takeN (s.drop q)).2.2 ≠ 0 ∨ 8 < (takeN (s.drop q)).1 then ((0 : Int), ([] : List Wri)) else match tksP (takeN (s.drop q)).1.toNat ((s.drop q).drop (takeN (s.drop q)).2.1.toNat) with | none => ((0 : Int), ([] : List Wri)) | some l => ((z : Int), l) := by
    unfold taP
    rw [e1]
    show (if (0 : Int) ≠ 0 then _ else _ : Int × List Wri) = _
    rw [if_neg (by omega), eq1]
    all_goals rfl
  repeat' (first
    | refine St.h ?_
    | simp (disch := first | omega | (simp only [lnv]; omega)) only [wlk, ↓get_put', ↓reduceIte, seval, e1, tri, eq1]
    | (with_reducible (first | apply cd_split | apply gd_split)) <;> (intro hc; (try simp only [hcn] at hc); (try simp only [hc]); (try simp only [hcl] at hc); try omega))
  refine CL.pure (takeNum_ok (by omega)) ?_
  rcases takeN_range (s.drop q) with (e2 | e2) | ⟨n, k, e2, n1, k1, k2, k3⟩
  · have en : taP s = (0, []) := by rw [hT, e2]; rfl
    repeat' (first
      | refine St.h ?_
      | simp (disch := first | omega | (simp only [lnv]; omega)) only [wlk, ↓get_put', ↓reduceIte, seval, e2, tri, hz0]
      | (with_reducible (first | apply cd_split | apply gd_split)) <;> (intro hc; (try simp only [hcn] at hc); (try simp only [hc]); (try simp only [hcl] at hc); try omega))
    subst hQ
    exact no (Stay.refl _ _) en
  · have en : taP s = (0, []) := by rw [hT, e2]; rfl
    repeat' (first
      | refine St.h ?_
      | simp (disch := first | omega | (simp only [lnv]; omega)) only [wlk, ↓get_put', ↓reduceIte, seval, e2, tri, hz1]
      | (with_reducible (first | apply cd_split | apply gd_split)) <;> (intro hc; (try simp only [hcn] at hc); (try simp only [hc]); (try simp only [hcl] at hc); try omega))
    subst hQ
    exact no (Stay.refl _ _) en
  rw [hdl] at k3
  have ek : (k : Int).toNat = k := by omega
  have en' : (n : Int).toNat = n := by omega
  have hdd : (s.drop q).drop k = s.drop (q + k) := by rw [List.drop_drop]
  by_cases h8 : 8 < n
  · have en : taP s = (0, []) := by rw [hT, e2, if_pos (Or.inr (by show (8 : Int) < (n : Int); omega))]
    have hc8 : ((8 : Int) < (n : Int)) = True := eq_true (by omega)
    repeat' (first
      | refine St.h ?_
      | simp (disch := first | omega | (simp only [lnv]; omega)) only [wlk, ↓get_put', ↓reduceIte, seval, e2, tri, hc8]
      | (with_reducible (first | apply cd_split | apply gd_split)) <;> (intro hc; (try simp only [hcn] at hc); (try simp only [hc]); (try simp only [hcl] at hc); try omega))
    subst hQ
    exact no (Stay.refl _ _) en
  have hT : taP s = match tksP n (s.drop (q + k)) with | none => ((0 : Int), ([] : List Wri)) | some l => ((z : Int), l) := by
    rw [hT, e2]
    show (if (0 : Int) ≠ 0 ∨ (8 : Int) < (n : Int) then _ else _ : Int × List Wri) = _
    rw [if_neg (by omega), en', ek, hdd]
  have hc8 : ((8 : Int) < (n : Int)) = False := eq_false (by omega)
  repeat' (first
    | refine St.h ?_
    | simp (disch := first | omega | (simp only [lnv]; omega)) only [wlk, ↓get_put', ↓reduceIte, seval, e2, tri, hc8]
    | (with_reducible (first | apply cd_split | apply gd_split)) <;> (intro hc; (try simp only [hcn] at hc); (try simp only [hc]); (try simp only [hcl] at hc); try omega))
  refine Ok.lp (fun m t g => ∃ (j a : Nat) (u : V) (M : List Wri), m = n - j ∧ j ≤ n ∧ a ≤ s.length ∧ M.length = j ∧ tksP n (s.drop (q + k)) = (tksP (n - j) (s.drop a)).map (fun r => M ++ r) ∧ get 0 t = sv s ∧ get 4 t = .i .i64 (z : Int) ∧ get 5 t = .i .i64 (a : Int) ∧ get 9 t = u ∧ get 38 t = .i .i64 (n : Int) ∧ get 39 t = .i .i64 (j : Int) ∧ Buf g 49 3 u (M.flatMap wriC) ∧ (∀ q, isOf u q → B.val h.next ≤ B.val q) ∧ Stay nowhere h g) n ?_ ?_
  · simp (disch := first | omega | (simp only [lnv]; omega)) only [wlk, ↓get_put', ↓reduceIte, seval]
    refine ⟨0, q + k, .l0, [], by omega, by omega, by omega, rfl, ?_, ?_, ?_, ?_, ?_, ?_, ?_, Buf.nil _ _ _, ?_, Stay.refl _ _⟩
    rotate_right
    · rintro i ⟨_, _, _, _, _, e⟩; cases e
    · rw [Nat.sub_zero]; cases tksP n (s.drop (q + k)) <;> simp
    all_goals first | trivial | rfl
  rintro I hI m t g ⟨j, a, u, M, rfl, hj, ha, hM, hR, f0, f4, f5, f9, f38, f39, bf, own, st⟩
  have hfg := st.fl hf
  by_cases hjn : j < n
  case neg =>
    obtain rfl : j = n := by omega
    have d1 : ((j : Int) < (j : Int)) = False := eq_false (by omega)
    rw [Nat.sub_self] at hR
    have e3 : taP s = ((z : Int), M) := by rw [hT, hR]; simp [tksP]
    repeat' (first
      | refine St.h ?_
      | simp (disch := first | omega | (simp only [lnv]; omega)) only [wlk, ↓get_put', ↓reduceIte, seval, f0, f4, f5, f9, f38, f39, d1]
      | (with_reducible (first | apply cd_split | apply gd_split)) <;> (intro hc; (try simp only [hcn] at hc); (try simp only [hc]); (try simp only [hcl] at hc); try omega))
    subst hQ
    rw [e3]
    exact ⟨u, rfl, Ss.buf bf rfl wriC_len (by omega), st⟩
  have d1 : ((j : Int) < (n : Int)) = True := eq_true (by omega)
  obtain ⟨d, hd⟩ : ∃ d, n - j = d + 1 := ⟨n - j - 1, by omega⟩
  rw [hd] at hR
  have hal : (s.drop a).length = s.length - a := List.length_drop
  have hR2 : tksP (d + 1) (s.drop a) = (tkP (s.drop a)).bind fun r => (tksP d ((s.drop a).drop r.2)).map (r.1 :: ·) := rfl
  repeat' (first
    | refine St.h ?_
    | simp (disch := first | omega | (simp only [lnv]; omega)) only [wlk, ↓get_put', ↓reduceIte, seval, f0, f4, f5, f9, f38, f39, d1, Int.toNat_natCast]
    | (with_reducible (first | apply cd_split | apply gd_split)) <;> (intro hc; (try simp only [hcn] at hc); (try simp only [hc]); (try simp only [hcl] at hc); try omega))
  refine CL.mk (btake_ok (s := s.drop a) (by omega) hfg) ?_
  rintro _ g1 ⟨w, c, b, rfl, t1, hno, hyes⟩
  have hf1 := t1.fl hfg
  have st1 := st.trans t1
  unfold wriC
  repeat' (first
    | refine St.h ?_
    | simp (disch := first | omega | (simp only [lnv]; omega)) only [wlk, ↓get_put', ↓reduceIte, seval, f0, f4, f5, f9, f38, f39]
    | (with_reducible (first | apply cd_split | apply gd_split)) <;> (intro hc; (try simp only [hcn] at hc); (try simp only [hc]); (try simp only [hcl] at hc); try omega))
  refine AL.own (by simp) hf1 fun g2 t2 _ o2 => ?_
  have hf2 := t2.fl hf1
  repeat' (first
    | refine St.h ?_
    | simp (disch := first | omega | (simp only [lnv]; omega)) only [wlk, ↓get_put', ↓reduceIte, seval, f0, f4, f5, f9, f38, f39]
    | (with_reducible (first | apply cd_split | apply gd_split)) <;> (intro hc; (try simp only [hcn] at hc); (try simp only [hc]); (try simp only [hcl] at hc); try omega))
  refine ST.all o2 rfl rfl (by simp) (by simp) fun g3 o3 t3 => ?_
  have hf3 := t3.fl hf2
  have t13 : Stay nowhere g1 g3 := t2.past' t3 fun q hq => by rw [hq]; exact Nat.le_refl _
  have st3 := st1.trans t13
  have b3 := bf.grow (t1.trans t13)
  cases b with
  | false =>
    have en : taP s = (0, []) := by rw [hT, hR, hR2, hno rfl]; rfl
    repeat' (first
      | refine St.h ?_
      | simp (disch := first | omega | (simp only [lnv]; omega)) only [wlk, ↓get_put', ↓reduceIte, seval, f0, f4, f5, f9, f38, f39]
      | (with_reducible (first | apply cd_split | apply gd_split)) <;> (intro hc; (try simp only [hcn] at hc); (try simp only [hc]); (try simp only [hcl] at hc); try omega))
    subst hQ
    exact no st3 en
  | true =>
    obtain ⟨y1, y2, y3⟩ := hyes rfl
    rw [hal] at y3
    have hdd2 : (s.drop a).drop c = s.drop (a + c) := by rw [List.drop_drop]
    rw [y1] at hR2
    have hR2 : tksP (d + 1) (s.drop a) = (tksP d (s.drop (a + c))).map (w :: ·) := by rw [hR2]; show ((tksP d ((s.drop a).drop c)).map (w :: ·)) = _; rw [hdd2]
    repeat' (first
      | refine St.h ?_
      | simp (disch := first | omega | (simp only [lnv]; omega)) only [wlk, ↓get_put', ↓reduceIte, seval, f0, f4, f5, f9, f38, f39, o3.row.ln]
      | (with_reducible (first | apply cd_split | apply gd_split)) <;> (intro hc; (try simp only [hcn] at hc); (try simp only [hc]); (try simp only [hcl] at hc); try omega))
    refine AL.own (by simp) hf3 fun g4 t4 _ o4 => ?_
    repeat' (first
      | refine St.h ?_
      | simp (disch := first | omega | (simp only [lnv]; omega)) only [wlk, ↓get_put', ↓reduceIte, seval, f0, f4, f5, f9, f38, f39]
      | (with_reducible (first | apply cd_split | apply gd_split)) <;> (intro hc; (try simp only [hcn] at hc); (try simp only [hc]); (try simp only [hcl] at hc); try omega))
    refine push_w (x := w) (b3.grow t4) o4 (by omega) (t4.fl hf3) fun u2 g5 b5 t5 ho => ?_
    have n5 := (st3.trans t4).next
    repeat' (first
      | refine St.h ?_
      | simp (disch := first | omega | (simp only [lnv]; omega)) only [wlk, ↓get_put', ↓reduceIte, seval, f0, f4, f5, f9, f38, f39]
      | (with_reducible (first | apply cd_split | apply gd_split)) <;> (intro hc; (try simp only [hcn] at hc); (try simp only [hc]); (try simp only [hcl] at hc); try omega))
    refine lp_next hI (n - (j + 1)) (by omega) ⟨j + 1, a + c, u2, M ++ [w], rfl, by omega, by omega, by rw [List.length_append, hM]; rfl, ?_, by simp (disch := first | omega | (simp only [lnv]; omega)) only [wlk, ↓get_put', ↓reduceIte, seval, f0], by simp (disch := first | omega | (simp only [lnv]; omega)) only [wlk, ↓get_put', ↓reduceIte, seval, f4], by simp (disch := first | omega | (simp only [lnv]; omega)) only [wlk, ↓get_put', ↓reduceIte, seval, f5]; rfl, by simp (disch := first | omega | (simp only [lnv]; omega)) only [wlk, ↓get_put', ↓reduceIte, seval], by simp (disch := first | omega | (simp only [lnv]; omega)) only [wlk, ↓get_put', ↓reduceIte, seval, f38], by simp (disch := first | omega | (simp only [lnv]; omega)) only [wlk, ↓get_put', ↓reduceIte, seval, f39]; rfl, b5, fun i hi => ?_, (st3.trans t4).past' t5 fun q hq => own q hq⟩
    · rw [hR, hR2, show n - (j + 1) = d by omega]
      cases tksP d (s.drop (a + c)) <;> simp
    · rcases ho i hi with h3 | h3
      · exact own i h3
      · omega
theorem bread_ok12 {h : H} {s : List UInt8} (hs : s.length ≤ 100000) (hf : B.val h.floor ≤ B.val h.next) : FnOk Try.prog 11 [sv s] h fun y h' => ∃ u, y = rdV u (readR s) ∧ Ws h' u (readR s).2.1 ∧ Stay nowhere h h' := by
  refine fn_go c11 (by intro hb; cases hb) (by simp) (by simp) fun Q hQ => ?_
  simp only [slotsF, Nat.reduceAdd]
  repeat' (first
    | refine St.h ?_
    | simp (disch := first | omega | (simp only [lnv]; omega)) only [wlk, ↓get_put', ↓reduceIte, seval]
    | (with_reducible (first | apply cd_split | apply gd_split)) <;> (intro hc; (try simp only [hcn] at hc); (try simp only [hc]); (try simp only [hcl] at hc); try omega))
  refine CL.stay (open_ok (by omega) hf) fun h1 s1 => ?_
  have hf1 := s1.fl hf
  have hend : ∀ {g : H} (e : Int), Stay nowhere h g → readR s = (0, [], 0, e) → ∃ u, V.tu [.i .i64 0, .l0, .i .i64 0, .i .i64 e] = rdV u (readR s) ∧ Ws g u (readR s).2.1 ∧ Stay nowhere h g := fun {g} e st e1 => by
    rw [e1]
    exact ⟨.l0, rfl, Ss.nil, st⟩
  have hz1 : ((12 : Int) = 0) = False := eq_false (by decide)
  have hz2 : ((13 : Int) = 0) = False := eq_false (by decide)
  rcases openB_range s with e | e | ⟨x, n, e, n1, n2, n3⟩
  · have e0 : readR s = (0, [], 0, 12) := by unfold readR; rw [e]; rfl
    repeat' (first
      | refine St.h ?_
      | simp (disch := first | omega | (simp only [lnv]; omega)) only [wlk, ↓get_put', ↓reduceIte, seval, opn, e, hz1]
      | (with_reducible (first | apply cd_split | apply gd_split)) <;> (intro hc; (try simp only [hcn] at hc); (try simp only [hc]); (try simp only [hcl] at hc); try omega))
    subst hQ
    exact hend 12 s1 e0
  · have e0 : readR s = (0, [], 0, 13) := by unfold readR; rw [e]; rfl
    repeat' (first
      | refine St.h ?_
      | simp (disch := first | omega | (simp only [lnv]; omega)) only [wlk, ↓get_put', ↓reduceIte, seval, opn, e, hz2]
      | (with_reducible (first | apply cd_split | apply gd_split)) <;> (intro hc; (try simp only [hcn] at hc); (try simp only [hc]); (try simp only [hcl] at hc); try omega))
    subst hQ
    exact hend 13 s1 e0
  have hR := readP (by omega) e
  obtain ⟨i1, i2⟩ := taP_int x
  have i3 := taP_len x
  repeat' (first
    | refine St.h ?_
    | simp (disch := first | omega | (simp only [lnv]; omega)) only [wlk, ↓get_put', ↓reduceIte, seval, opn, e]
    | (with_reducible (first | apply cd_split | apply gd_split)) <;> (intro hc; (try simp only [hcn] at hc); (try simp only [hc]); (try simp only [hcl] at hc); try omega))
  refine CL.mk (btakeAll_ok (by omega) hf1) ?_
  rintro _ h2 ⟨u, rfl, hu, s2⟩
  have hf2 := s2.fl hf1
  have s02 := s1.trans s2
  repeat' (first
    | refine St.h ?_
    | simp (disch := first | omega | (simp only [lnv]; omega)) only [wlk, ↓get_put', ↓reduceIte, seval]
    | (with_reducible (first | apply cd_split | apply gd_split)) <;> (intro hc; (try simp only [hcn] at hc); (try simp only [hc]); (try simp only [hcl] at hc); try omega))
  refine CL.stay (bbytes_ok (seq := (taP x).1) hu (by omega) (by omega) (by omega) hf2) fun h3 s3 => ?_
  have s03 := s02.trans s3
  by_cases hc : (bytB (taP x).1 (taP x).2).1 = s.take n
  · have hcd : decide ((bytB (taP x).1 (taP x).2).1 = s.take n) = true := decide_eq_true hc
    rw [if_pos hc] at hR
    repeat' (first
      | refine St.h ?_
      | simp (disch := first | omega | (simp only [lnv]; omega)) only [wlk, ↓get_put', ↓reduceIte, seval, hc, hcd, Int.toNat_natCast]
      | (with_reducible (first | apply cd_split | apply gd_split)) <;> (intro hc; (try simp only [hcn] at hc); (try simp only [hc]); (try simp only [hcl] at hc); try omega))
    subst hQ
    rw [hR]
    exact ⟨u, rfl, hu.grow s3, s03⟩
  · have hcd : decide ((bytB (taP x).1 (taP x).2).1 = s.take n) = false := decide_eq_false hc
    rw [if_neg hc] at hR
    repeat' (first
      | refine St.h ?_
      | simp (disch := first | omega | (simp only [lnv]; omega)) only [wlk, ↓get_put', ↓reduceIte, seval, hcd, Int.toNat_natCast]
      | (with_reducible (first | apply cd_split | apply gd_split)) <;> (intro hc; (try simp only [hcn] at hc); (try simp only [hc]); (try simp only [hcl] at hc); try omega))
    subst hQ
    exact hend 10 s03 hR
theorem bentries_okO {h : H} {v : V} {seq : Int} {L : List Wri} (hL : Ws h v L) (hl : L.length ≤ 10000) (hf : B.val h.floor ≤ B.val h.next) : FnOk Try.prog 21 [.i .i64 seq, v] h fun y h' => Es h' y (entB seq L) ∧ SwN 4 y ∧ (∀ q, isOf y q → B.val h.next ≤ B.val q) ∧ Stay nowhere h h' := by
  refine fn_go c21 (by intro hb; cases hb) (by simp) (by simp) fun Q hQ => ?_
  simp only [slotsF, Nat.reduceAdd]
  repeat' (first
    | refine St.h ?_
    | simp (disch := first | omega | (simp only [lnv]; omega)) only [wlk, ↓get_put', ↓reduceIte, seval]
    | (with_reducible (first | apply cd_split | apply gd_split)) <;> (intro hc; (try simp only [hcn] at hc); (try simp only [hc]); (try simp only [hcl] at hc); try omega))
  refine CL.stay (bis_ok hL hl hf) fun h1 s1 => ?_
  have hf1 := s1.fl hf
  have hL1 := hL.grow s1
  cases hB : isB L with
  | false =>
    have hE : entB seq L = [] := by unfold entB; rw [hB]; rfl
    repeat' (first
      | refine St.h ?_
      | simp (disch := first | omega | (simp only [lnv]; omega)) only [wlk, ↓get_put', ↓reduceIte, seval]
      | (with_reducible (first | apply cd_split | apply gd_split)) <;> (intro hc; (try simp only [hcn] at hc); (try simp only [hc]); (try simp only [hcl] at hc); try omega))
    subst hQ
    rw [hE]
    refine ⟨Ss.nil, .inl rfl, ?_, s1⟩
    rintro i ⟨_, _, _, _, _, e⟩; cases e
  | true =>
  have hE : entB seq L = L.map fun w => (⟨w.key, seq, w.del, w.val⟩ : Ent) := by unfold entB; rw [hB]; rfl
  repeat' (first
    | refine St.h ?_
    | simp (disch := first | omega | (simp only [lnv]; omega)) only [wlk, ↓get_put', ↓reduceIte, seval, hL1.ln]
    | (with_reducible (first | apply cd_split | apply gd_split)) <;> (intro hc; (try simp only [hcn] at hc); (try simp only [hc]); (try simp only [hcl] at hc); try omega))
  refine Ok.lp (fun m t g => ∃ (j : Nat) (u : V), m = L.length - j ∧ j ≤ L.length ∧ get 0 t = .i .i64 seq ∧ get 5 t = u ∧ get 11 t = v ∧ get 12 t = .i .i64 (L.length : Int) ∧ get 13 t = .i .i64 (j : Int) ∧ Buf g 79 4 u (((L.take j).map fun w => (⟨w.key, seq, w.del, w.val⟩ : Ent)).flatMap entC) ∧ (∀ q, isOf u q → B.val h.next ≤ B.val q) ∧ Stay nowhere h g) L.length ?_ ?_
  · simp (disch := first | omega | (simp only [lnv]; omega)) only [wlk, ↓get_put', ↓reduceIte, seval]
    refine ⟨0, .l0, by omega, by omega, ?_, ?_, ?_, ?_, ?_, Buf.nil _ _ _, ?_, s1⟩
    rotate_right
    · rintro i ⟨_, _, _, _, _, e⟩; cases e
    all_goals first | trivial | rfl
  rintro I hI m t g ⟨j, u, rfl, hj, f0, f5, f11, f12, f13, bf, own, st⟩
  have hLg := hL.grow st
  have hfg := st.fl hf
  by_cases hjl : j < L.length
  case neg =>
    obtain rfl : j = L.length := by omega
    rw [List.take_length] at bf
    have d1 : ((L.length : Int) < (L.length : Int)) = False := eq_false (by omega)
    repeat' (first
      | refine St.h ?_
      | simp (disch := first | omega | (simp only [lnv]; omega)) only [wlk, ↓get_put', ↓reduceIte, seval, f0, f5, f11, f12, f13, d1]
      | (with_reducible (first | apply cd_split | apply gd_split)) <;> (intro hc; (try simp only [hcn] at hc); (try simp only [hc]); (try simp only [hcl] at hc); try omega))
    subst hQ
    rw [hE]
    exact ⟨Ss.buf bf rfl entC_len (by omega), swn_buf12 bf, own, st⟩
  have d1 : ((j : Int) < (L.length : Int)) = True := eq_true (by omega)
  repeat' (first
    | refine St.h ?_
    | simp (disch := first | omega | (simp only [lnv]; omega)) only [wlk, ↓get_put', ↓reduceIte, seval, f0, f5, f11, f12, f13, d1, hLg.ix, hLg.la, Int.toNat_natCast]
    | (with_reducible (first | apply cd_split | apply gd_split)) <;> (intro hc; (try simp only [hcn] at hc); (try simp only [hc]); (try simp only [hcl] at hc); try omega))
  refine AL.own (by simp) hfg fun g1 t1 _ o1 => ?_
  have hf1' := t1.fl hfg
  repeat' (first
    | refine St.h ?_
    | simp (disch := first | omega | (simp only [lnv]; omega)) only [wlk, ↓get_put', ↓reduceIte, seval, f0, f5, f11, f12, f13]
    | (with_reducible (first | apply cd_split | apply gd_split)) <;> (intro hc; (try simp only [hcn] at hc); (try simp only [hc]); (try simp only [hcl] at hc); try omega))
  refine ST.all o1 rfl rfl (by simp) (by simp) fun g2 o2 t2 => ?_
  have hf2' := t2.fl hf1'
  have tt : Stay nowhere g g2 := t1.past' t2 fun q hq => by rw [hq]; exact Nat.le_refl _
  have r2 := o2.row
  repeat' (first
    | refine St.h ?_
    | simp (disch := first | omega | (simp only [lnv]; omega)) only [wlk, ↓get_put', ↓reduceIte, seval, f0, f5, f11, f12, f13, r2.l1]
    | (with_reducible (first | apply cd_split | apply gd_split)) <;> (intro hc; (try simp only [hcn] at hc); (try simp only [hc]); (try simp only [hcl] at hc); try omega))
  refine AL.own (by simp) hf2' fun g3 t3 _ q3 => ?_
  have b3 := bf.grow (tt.trans t3)
  repeat' (first
    | refine St.h ?_
    | simp (disch := first | omega | (simp only [lnv]; omega)) only [wlk, ↓get_put', ↓reduceIte, seval, f0, f5, f11, f12, f13]
    | (with_reducible (first | apply cd_split | apply gd_split)) <;> (intro hc; (try simp only [hcn] at hc); (try simp only [hc]); (try simp only [hcl] at hc); try omega))
  have hfl : (((L.take j).map fun w => (⟨w.key, seq, w.del, w.val⟩ : Ent)).flatMap entC).length = j * 4 := by rw [fm_len entC_len]; simp; omega
  refine AP.buf (vs := entC ⟨(L.getD j default).key, seq, (L.getD j default).del, (L.getD j default).val⟩) (cnt := 1) b3 (new_row q3.row rfl (Nat.le_refl _) (by omega) (by show 4 ≤ 4; omega)) (t3.fl hf2') (by omega) rfl rfl (by rw [hfl]; show j * 4 + 4 ≤ 1048576; omega) fun u2 g4 b4 t4 ho _ => ?_
  repeat' (first
    | refine St.h ?_
    | simp (disch := first | omega | (simp only [lnv]; omega)) only [wlk, ↓get_put', ↓reduceIte, seval, f0, f5, f11, f12, f13]
    | (with_reducible (first | apply cd_split | apply gd_split)) <;> (intro hc; (try simp only [hcn] at hc); (try simp only [hc]); (try simp only [hcl] at hc); try omega))
  have n2 := ((st.trans tt).trans t3).next
  refine lp_next hI (L.length - (j + 1)) (by omega) ⟨j + 1, u2, rfl, by omega, by simp (disch := first | omega | (simp only [lnv]; omega)) only [wlk, ↓get_put', ↓reduceIte, seval, f0], by simp (disch := first | omega | (simp only [lnv]; omega)) only [wlk, ↓get_put', ↓reduceIte, seval], by simp (disch := first | omega | (simp only [lnv]; omega)) only [wlk, ↓get_put', ↓reduceIte, seval, f11], by simp (disch := first | omega | (simp only [lnv]; omega)) only [wlk, ↓get_put', ↓reduceIte, seval, f12], by simp (disch := first | omega | (simp only [lnv]; omega)) only [wlk, ↓get_put', ↓reduceIte, seval, f13]; rfl, ?_, fun i hi => ?_, ((st.trans tt).trans t3).past' t4 fun i hi => own i hi⟩
  · rw [take_wri hjl, List.map_append, List.flatMap_append]; simpa using b4
  · rcases ho i hi with h3 | h3
    · exact own i h3
    · omega
theorem blog_ok {h : H} {s : List UInt8} (hs : s.length ≤ 100000) (hf : B.val h.floor ≤ B.val h.next) : FnOk Try.prog 13 [sv s] h fun y h' => ∃ u, y = .tu [u, .i .i64 (logB s).2.1, .i .i64 ((logB s).2.2 : Int)] ∧ Es h' u (logB s).1 ∧ SwN 4 u ∧ Stay nowhere h h' := by
  refine fn_go c13 (by intro hb; cases hb) (by simp) (by simp) fun Q hQ => ?_
  simp only [slotsF, Nat.reduceAdd]
  repeat' (first
    | refine St.h ?_
    | simp (disch := first | omega | (simp only [lnv]; omega)) only [wlk, ↓get_put', ↓reduceIte, seval]
    | (with_reducible (first | apply cd_split | apply gd_split)) <;> (intro hc; (try simp only [hcn] at hc); (try simp only [hc]); (try simp only [hcl] at hc); try omega))
  refine Ok.lp (fun m t g => ∃ (a k : Nat) (z : Int) (u : V) (M : List Ent), m = s.length - a ∧ a ≤ s.length ∧ s.length - a ≤ k ∧ M.length ≤ 2 * a ∧ (0 < a → 0 ≤ z ∧ z ≤ 1000000) ∧ logB s = (M ++ (logF k (decide (a = 0)) z (s.drop a)).1, (logF k (decide (a = 0)) z (s.drop a)).2.1, a + (logF k (decide (a = 0)) z (s.drop a)).2.2) ∧ get 0 t = sv s ∧ get 5 t = u ∧ get 6 t = .i .i64 z ∧ get 7 t = .i .i64 (a : Int) ∧ Buf g 79 4 u (M.flatMap entC) ∧ (∀ q, isOf u q → B.val h.next ≤ B.val q) ∧ Stay nowhere h g) s.length ?_ ?_
  · simp (disch := first | omega | (simp only [lnv]; omega)) only [wlk, ↓get_put', ↓reduceIte, seval]
    refine ⟨0, s.length, 0, .l0, [], by omega, by omega, by omega, by simp, fun e => absurd e (by omega), ?_, ?_, ?_, ?_, ?_, Buf.nil _ _ _, ?_, Stay.refl _ _⟩
    rotate_right
    · rintro i ⟨_, _, _, _, _, e⟩; cases e
    · unfold logB; simp
    all_goals first | trivial | rfl
  rintro I hI m t g ⟨a, k, z, u, M, rfl, ha, hk, hM, hz, hG, f0, f5, f6, f7, bf, own, st⟩
  have hfg := st.fl hf
  have hdl : (s.drop a).length = s.length - a := List.length_drop
  have hend : logF k (decide (a = 0)) z (s.drop a) = ([], z, 0) → logB s = (M, z, a) := fun e => by rw [hG, e, List.append_nil]; rfl
  have hstop : (readR (s.drop a)).2.2.2 ≠ 0 ∨ (decide (a = 0) = false ∧ (readR (s.drop a)).1 ≠ z + 1) → logF k (decide (a = 0)) z (s.drop a) = ([], z, 0) := fun h => logF_stop (.inr h) k
  repeat' (first
    | refine St.h ?_
    | simp (disch := first | omega | (simp only [lnv]; omega)) only [wlk, ↓get_put', ↓reduceIte, seval, f0, f5, f6, f7, Int.toNat_natCast]
    | (with_reducible (first | apply cd_split | apply gd_split)) <;> (intro hc; (try simp only [hcn] at hc); (try simp only [hc]); (try simp only [hcl] at hc); try omega))
  refine CL.mk (bread_ok12 (s := s.drop a) (by omega) hfg) ?_
  rintro _ g1 ⟨w, rfl, hw, t1⟩
  have hf1 := t1.fl hfg
  have b1 := bf.grow t1
  have st1 := st.trans t1
  rcases readR_cases (s.drop a) with e | ⟨q, n, l, e, ho, hb, n1, n2⟩
  · have e0 := hend (hstop (.inl e))
    have d1 : ((readR (s.drop a)).2.2.2 = 0) = False := eq_false e
    repeat' (first
      | refine St.h ?_
      | simp (disch := first | omega | (simp only [lnv]; omega)) only [wlk, ↓get_put', ↓reduceIte, seval, f0, f5, f6, f7, rdV, d1]
      | (with_reducible (first | apply cd_split | apply gd_split)) <;> (intro hc; (try simp only [hcn] at hc); (try simp only [hc]); (try simp only [hcl] at hc); try omega))
    subst hQ
    rw [e0]
    exact ⟨u, rfl, Ss.buf b1 rfl entC_len (by omega), swn_buf12 b1, st1⟩
  have hq : 1 ≤ q ∧ q ≤ 1000000 := by
    have := (okB12_iff.1 ho).2; omega
  have hl8 := isB_len (okB12_iff.1 ho).1
  rw [hdl] at n2
  have hdd : (s.drop a).drop n = s.drop (a + n) := by rw [List.drop_drop]
  rw [e] at hw
  have hw : Ws g1 w l := hw
  have has : a < s.length := by omega
  obtain ⟨k, rfl⟩ : ∃ k', k = k' + 1 := ⟨k - 1, by omega⟩
  have hne : s.drop a ≠ [] := fun e => by rw [e] at hdl; simp at hdl; omega
  have hstep : ¬ (decide (a = 0) = false ∧ (q : Int) ≠ z + 1) → logF (k + 1) (decide (a = 0)) z (s.drop a) = (entB q l ++ (logF k false q (s.drop (a + n))).1, (logF k false q (s.drop (a + n))).2.1, n + (logF k false q (s.drop (a + n))).2.2) := fun hx => by
    show (if _ ∨ _ ∨ _ then _ else _ : List Ent × Int × Nat) = _
    rw [e, if_neg (by
      rintro (h1 | h1 | h1)
      · exact hne h1
      · exact h1 rfl
      · exact hx h1)]
    show (_, _, _) = _
    rw [← hdd]
    rfl
  by_cases hx : 0 < a ∧ (q : Int) ≠ z + 1
  · have e0 := hend (hstop (.inr ⟨by rw [decide_eq_false (by omega)], by rw [e]; exact hx.2⟩))
    have hz := hz hx.1
    have ha0 : ((0 : Int) < (a : Int)) = True := eq_true (by omega)
    have hqz : ((q : Int) = z + 1) = False := eq_false hx.2
    repeat' (first
      | refine St.h ?_
      | simp (disch := first | omega | (simp only [lnv]; omega)) only [wlk, ↓get_put', ↓reduceIte, seval, f0, f5, f6, f7, rdV, e, ha0, hqz]
      | (with_reducible (first | apply cd_split | apply gd_split)) <;> (intro hc; (try simp only [hcn] at hc); (try simp only [hc]); (try simp only [hcl] at hc); try omega))
    subst hQ
    rw [e0]
    exact ⟨u, rfl, Ss.buf b1 rfl entC_len (by omega), swn_buf12 b1, st1⟩
  have hst := hstep (fun h => hx ⟨by have := of_decide_eq_false h.1; omega, h.2⟩)
  have hel := entB_len (q : Int) l
  obtain ⟨A, hA⟩ : ∃ A : Bool, decide ((0 : Int) < (a : Int)) = A := ⟨_, rfl⟩
  have hzr : A = true → 0 ≤ z ∧ z ≤ 1000000 := fun h => hz (by rw [h] at hA; have := of_decide_eq_true hA; omega)
  have hqz : A = true → ((q : Int) = z + 1) = True := fun h => by
    refine eq_true ?_
    rw [h] at hA; have := of_decide_eq_true hA
    by_cases h2 : (q : Int) = z + 1
    · exact h2
    · exact absurd ⟨by omega, h2⟩ hx
  cases A
  all_goals
    first
    | have hzr := hzr rfl
      have hqz := hqz rfl
      have hA : ((0 : Int) < (a : Int)) = True := eq_true (of_decide_eq_true hA)
      repeat' (first
        | refine St.h ?_
        | simp (disch := first | omega | (simp only [lnv]; omega)) only [wlk, ↓get_put', ↓reduceIte, seval, f0, f5, f6, f7, rdV, e, hA, hqz]
        | (with_reducible (first | apply cd_split | apply gd_split)) <;> (intro hc; (try simp only [hcn] at hc); (try simp only [hc]); (try simp only [hcl] at hc); try omega))
    | have hA : ((0 : Int) < (a : Int)) = False := eq_false (of_decide_eq_false hA)
      repeat' (first
        | refine St.h ?_
        | simp (disch := first | omega | (simp only [lnv]; omega)) only [wlk, ↓get_put', ↓reduceIte, seval, f0, f5, f6, f7, rdV, e, hA]
        | (with_reducible (first | apply cd_split | apply gd_split)) <;> (intro hc; (try simp only [hcn] at hc); (try simp only [hc]); (try simp only [hcl] at hc); try omega))
    refine CL.mk (bentries_okO (seq := q) hw (by omega) hf1) ?_
    rintro u2 g2 ⟨he, _, heo, t2⟩
    have hf2 := t2.fl hf1
    have b2 := b1.grow t2
    repeat' (first
      | refine St.h ?_
      | simp (disch := first | omega | (simp only [lnv]; omega)) only [wlk, ↓get_put', ↓reduceIte, seval, f0, f5, f6, f7, rdV, e]
      | (with_reducible (first | apply cd_split | apply gd_split)) <;> (intro hc; (try simp only [hcn] at hc); (try simp only [hc]); (try simp only [hcl] at hc); try omega))
    refine AP.buf (vs := (entB q l).flatMap entC) (cnt := (entB q l).length) b2 (fun k => new_ss he entC_len (by omega) k) hf2 (by omega) (fm_len entC_len _) (allOne_ents _) (by rw [fm_len entC_len, fm_len entC_len]; omega) fun u3 g3 b3 t3 ho3 _ => ?_
    have n2' := (st1.trans t2).next
    repeat' (first
      | refine St.h ?_
      | simp (disch := first | omega | (simp only [lnv]; omega)) only [wlk, ↓get_put', ↓reduceIte, seval, f0, f5, f6, f7, rdV, e]
      | (with_reducible (first | apply cd_split | apply gd_split)) <;> (intro hc; (try simp only [hcn] at hc); (try simp only [hc]); (try simp only [hcl] at hc); try omega))
    refine lp_next hI (s.length - (a + n)) (by omega) ⟨a + n, k, q, u3, M ++ entB q l, rfl, by omega, by omega, by rw [List.length_append]; omega, fun _ => by omega, ?_, by simp (disch := first | omega | (simp only [lnv]; omega)) only [wlk, ↓get_put', ↓reduceIte, seval, f0], by simp (disch := first | omega | (simp only [lnv]; omega)) only [wlk, ↓get_put', ↓reduceIte, seval], by simp (disch := first | omega | (simp only [lnv]; omega)) only [wlk, ↓get_put', ↓reduceIte, seval], by simp (disch := first | omega | (simp only [lnv]; omega)) only [wlk, ↓get_put', ↓reduceIte, seval]; rfl, by rw [List.flatMap_append]; exact b3, fun i hi => ?_, (st1.trans t2).past' t3 fun i hi => own i hi⟩
    · rw [hG, hst, decide_eq_false (by omega : ¬ a + n = 0)]
      rw [List.append_assoc, Nat.add_assoc]
    · rcases ho3 i hi with h3 | h3
      · exact own i h3
      · omega
end Go.Proofs.Ythncpgkpkdolfaa

set_option maxRecDepth 1000000
set_option linter.all false
namespace Go.Proofs.Ythncpgkpkdolfaa
open Go Go.Ev
noncomputable abbrev s7_0 : CC := (CC.seq (CC.draws [(uB 51 (doMove (tm 3))), (uB 52 (bin2 fEql (tm 51) (oN 0))), (uB 53 (doMove (tm 52))), (uG 53 true 54 (doMove (tm 7))), (uG 53 true 55 (bin2 fEql (tm 54) (oN 0))), (uB 56 (doPick (tm 53) (tm 55) (O.c (V.b Bool.false)))), (uB 57 (doMove (tm 56))), (uG 57 true 58 (doMove (tm 4))), (uG 57 true 59 (bin2 fEql (tm 58) (oN 3))), (uB 60 (doPick (tm 57) (tm 59) (O.c (V.b Bool.false)))), (uB 61 (doMove (tm 60))), (uG 61 true 62 (doMove (tm 6))), (uG 61 true 63 (doMove (tm 2))), (uG 61 true 64 (doLenS (tm 63))), (uG 61 true 65 (bin2 fEql (tm 62) (tm 64))), (uB 66 (doPick (tm 61) (tm 65) (O.c (V.b Bool.false)))), (uB 67 (doMove (tm 66))), (uG 67 true 68 (doMove (tm 5))), (uG 67 true 69 (doMove (tm 1))), (wG 67 true 70 (doCall 17 [(tm 68), (tm 69)])), (uB 71 (doPick (tm 67) (tm 70) (O.c (V.b Bool.false)))), (uB 72 (doMove (tm 71))), (uG 72 true 73 (doMove (tm 9))), (uG 72 true 74 (bin2 fEql (tm 73) (oN 10))), (uB 75 (doPick (tm 72) (tm 74) (O.c (V.b Bool.false)))), (uB 76 (doMove (tm 75))), (uG 76 true 77 (doMove (tm 1))), (wG 76 true 78 (doCall 15 [(tm 77)])), (uB 79 (doPick (tm 76) (tm 78) (O.c (V.b Bool.false)))), (uB 80 (doMove (tm 79))), (wG 80 true 81 (doCall 15 [(O.c V.l0)])), (uB 82 (doPick (tm 80) (tm 81) (O.c (V.b Bool.false)))), (uB 83 (doMove (tm 82))), (uG 83 true 84 (doMove (tm 1))), (uG 83 true 85 (doIndexAddr 3 (tm 84) (oN 1))), (uG 83 true 86 (doLoadA 3 (tm 85))), (uG 83 true 87 (doMove (tm 1))), (uG 83 true 88 (doIndexAddr 3 (tm 87) (oN 0))), (uG 83 true 89 (doLoadA 3 (tm 88))), (wG 83 true 90 (doBuildSlice 49 2 [(V.s 0 0), (V.b Bool.false), (V.s 0 0), (V.s 0 0), (V.b Bool.false), (V.s 0 0)] [(Pt.mk 0 3 (tm 86)), (Pt.mk 3 3 (tm 89))])), (wG 83 true 91 (doCall 15 [(tm 90)])), (uG 83 true 92 (doNot (tm 91))), (uB 93 (doPick (tm 83) (tm 92) (O.c (V.b Bool.false)))), (uB 94 (doMove (tm 93))), (uG 94 true 95 (doMove (tm 10))), (uG 94 true 96 (doLen (tm 95))), (uG 94 true 97 (bin2 fEql (tm 96) (oN 2))), (uB 98 (doPick (tm 94) (tm 97) (O.c (V.b Bool.false)))), (uB 99 (doMove (tm 98))), (uG 99 true 100 (doMove (tm 10))), (uG 99 true 101 (doIndexAddr 3 (tm 100) (oN 1))), (uG 99 true 102 (doFieldAddr 2 (tm 101))), (wG 99 true 103 (doLoad (tm 102))), (uG 99 true 104 (doSCmp eqS (tm 103) (O.c (V.s 1 121)))), (uB 105 (doPick (tm 99) (tm 104) (O.c (V.b Bool.false)))), (uB 106 (doMove (tm 105))), (uG 106 true 107 (doMove (tm 11))), (uG 106 true 108 (doLen (tm 107))), (uG 106 true 109 (bin2 fEql (tm 108) (oN 2))), (uB 110 (doPick (tm 106) (tm 109) (O.c (V.b Bool.false)))), (uB 111 (doMove (tm 110))), (uG 111 true 112 (doMove (tm 12))), (uG 111 true 113 (bin2 fEql (tm 112) (oN 3))), (uB 114 (doPick (tm 111) (tm 113) (O.c (V.b Bool.false)))), (uB 115 (doMove (tm 114))), (uG 115 true 116 (doMove (tm 13))), (uG 115 true 117 (doMove (tm 2))), (uG 115 true 118 (doLenS (tm 117))), (uG 115 true 119 (bin2 fEql (tm 116) (tm 118))), (uB 120 (doPick (tm 115) (tm 119) (O.c (V.b Bool.false)))), (uB 121 (doMove (tm 120))), (uG 121 true 122 (doMove (tm 1))), (wG 121 true 123 (doCall 21 [(oN 5), (tm 122)])), (uG 121 true 124 (doLen (tm 123))), (uG 121 true 125 (bin2 fEql (tm 124) (oN 2))), (uB 126 (doPick (tm 121) (tm 125) (O.c (V.b Bool.false)))), (uB 0 (doMove (tm 126)))]) CC.ret)
noncomputable abbrev s7_1 : CC := (CC.seq (CC.region [(wB 45 (doMove (tm 2))), (wB 46 (doConcat (tm 45) (O.c (V.s 1 122)))), (wB 47 (doCall 13 [(tm 46)])), (wB 44 (doMove (tm 47))), (wB 48 (doExtract 0 (tm 44))), (wB 49 (doExtract 1 (tm 44))), (wB 50 (doExtract 2 (tm 44))), (wB 11 (doMove (tm 48))), (wB 12 (doMove (tm 49))), (wB 13 (doMove (tm 50)))]) s7_0)
noncomputable abbrev s7_2 : CC := (CC.seq (CC.draws [(uB 35 (doMove (tm 1))), (uB 36 (doIndexAddr 3 (tm 35) (oN 1))), (uB 37 (doLoadA 3 (tm 36))), (uB 38 (doMove (tm 1))), (uB 39 (doIndexAddr 3 (tm 38) (oN 0))), (uB 40 (doLoadA 3 (tm 39))), (uB 41 (doBuild [(V.s 0 0), (V.b Bool.false), (V.s 0 0)] [(Pt.mk 0 1 (O.c (V.s 1 98))), (Pt.mk 2 1 (O.c (V.s 1 121)))])), (wB 42 (doBuildSlice 49 3 [(V.s 0 0), (V.b Bool.false), (V.s 0 0), (V.s 0 0), (V.b Bool.false), (V.s 0 0), (V.s 0 0), (V.b Bool.false), (V.s 0 0)] [(Pt.mk 0 3 (tm 37)), (Pt.mk 3 3 (tm 40)), (Pt.mk 6 3 (tm 41))])), (wB 43 (doCall 18 [(tm 42)])), (uB 10 (doMove (tm 43)))]) s7_1)
noncomputable abbrev s7_3 : CC := (CC.seq (CC.region [(wB 31 (doMove (tm 1))), (wB 32 (doCall 9 [(oN 0), (tm 31)])), (wB 30 (doMove (tm 32))), (wB 33 (doExtract 0 (tm 30))), (wB 34 (doExtract 1 (tm 30))), (wB 8 (doMove (tm 33))), (wB 9 (doMove (tm 34)))]) s7_2)
noncomputable abbrev s7_4 : CC := (CC.seq (CC.region [(wB 23 (doMove (tm 2))), (wB 24 (doConcat (tm 23) (O.c (V.s 1 122)))), (wB 25 (doCall 11 [(tm 24)])), (wB 22 (doMove (tm 25))), (wB 26 (doExtract 0 (tm 22))), (wB 27 (doExtract 1 (tm 22))), (wB 28 (doExtract 2 (tm 22))), (wB 29 (doExtract 3 (tm 22))), (wB 4 (doMove (tm 26))), (wB 5 (doMove (tm 27))), (wB 6 (doMove (tm 28))), (wB 7 (doMove (tm 29)))]) s7_3)
noncomputable abbrev s7_5 : CC := (CC.seq (CC.region [(wB 18 (doMove (tm 1))), (wB 19 (doCall 9 [(oN 3), (tm 18)])), (wB 17 (doMove (tm 19))), (wB 20 (doExtract 0 (tm 17))), (wB 21 (doExtract 1 (tm 17))), (wB 2 (doMove (tm 20))), (wB 3 (doMove (tm 21)))]) s7_4)
noncomputable abbrev s7_6 : CC := (CC.seq (CC.region [(wB 14 (doBuild [(V.s 0 0), (V.b Bool.false), (V.s 0 0)] [(Pt.mk 0 1 (O.c (V.s 1 97))), (Pt.mk 2 1 (O.c (V.s 1 120)))])), (wB 15 (doBuild [(V.s 0 0), (V.b Bool.false), (V.s 0 0)] [(Pt.mk 0 1 (O.c (V.s 1 98))), (Pt.mk 1 1 (O.c (V.b Bool.true)))])), (wB 16 (doBuildSlice 49 2 [(V.s 0 0), (V.b Bool.false), (V.s 0 0), (V.s 0 0), (V.b Bool.false), (V.s 0 0)] [(Pt.mk 0 3 (tm 14)), (Pt.mk 3 3 (tm 15))])), (wB 1 (doMove (tm 16)))]) s7_5)
noncomputable abbrev b7 : CC := (CC.seq (CC.region [(wB 0 (doMove (O.c (V.b Bool.false))))]) s7_6)
theorem c7 : compFn Try.prog 7 = ⟨127, b7, [(Rs.tmp (slOf 0))]⟩ := by kernel_rfl
noncomputable abbrev s3_0 : CC := (CC.seq (CC.region [(wB 6 (doMove (O.c (V.b Bool.false))))]) CC.ret)
noncomputable abbrev s3_1 : CC := (CC.cond (tm 26) s3_0 CC.skip)
noncomputable abbrev s3_2 : CC := (CC.seq (CC.region [(wB 25 (doCall 7 [])), (wB 26 (doNot (tm 25)))]) s3_1)
noncomputable abbrev s3_3 : CC := (CC.seq (CC.region [(wB 6 (doMove (O.c (V.b Bool.true))))]) CC.ret)
noncomputable abbrev s3_4 : CC := (CC.cond (tm 34) s3_3 CC.skip)
noncomputable abbrev s3_5 : CC := (CC.seq (CC.region [(wB 27 (doMove (tm 0))), (wB 28 (doCall 8 [(tm 27)])), (wB 29 (doNot (tm 28))), (wB 30 (doMove (tm 29))), (wG 30 false 31 (doMove (tm 2))), (wG 30 false 32 (doLenS (tm 31))), (wG 30 false 33 (bin2 fGtr (tm 32) (oN 1500))), (wB 34 (doPick (tm 30) (O.c (V.b Bool.true)) (tm 33)))]) s3_4)
noncomputable abbrev s3_6 : CC := (CC.seq (CC.region [(wB 73 (doMove (tm 0))), (wB 74 (doCall 15 [(tm 73)])), (wB 75 (doMove (tm 0))), (wB 76 (doCall 16 [(tm 75)])), (wB 77 (doBool Bool.false (tm 74) (tm 76))), (wB 78 (doMove (tm 77))), (wG 78 true 79 (doMove (tm 0))), (wG 78 true 80 (doCall 18 [(tm 79)])), (wG 78 true 81 (doMove (tm 0))), (wG 78 true 82 (doCall 19 [(tm 81)])), (wG 78 true 83 (doCall 17 [(tm 80), (tm 82)])), (wB 84 (doPick (tm 78) (tm 83) (O.c (V.b Bool.false)))), (wB 85 (doMove (tm 84))), (wG 85 true 86 (doMove (tm 7))), (wG 85 true 87 (doMove (tm 9))), (wG 85 true 88 (doSCmp eqS (tm 86) (tm 87))), (wB 89 (doPick (tm 85) (tm 88) (O.c (V.b Bool.false)))), (wB 90 (doMove (tm 89))), (wG 90 true 91 (doMove (tm 8))), (wG 90 true 92 (doMove (tm 10))), (wG 90 true 93 (bin2 fEql (tm 91) (tm 92))), (wB 94 (doPick (tm 90) (tm 93) (O.c (V.b Bool.false)))), (wB 95 (doMove (tm 94))), (wG 95 true 96 (doMove (tm 11))), (wG 95 true 97 (doMove (tm 15))), (wG 95 true 98 (bin2 fEql (tm 96) (tm 97))), (wB 99 (doPick (tm 95) (tm 98) (O.c (V.b Bool.false)))), (wB 100 (doMove (tm 99))), (wG 100 true 101 (doMove (tm 12))), (wG 100 true 102 (doMove (tm 16))), (wG 100 true 103 (doCall 17 [(tm 101), (tm 102)])), (wB 104 (doPick (tm 100) (tm 103) (O.c (V.b Bool.false)))), (wB 105 (doMove (tm 104))), (wG 105 true 106 (doMove (tm 13))), (wG 105 true 107 (doMove (tm 17))), (wG 105 true 108 (bin2 fEql (tm 106) (tm 107))), (wB 109 (doPick (tm 105) (tm 108) (O.c (V.b Bool.false)))), (wB 110 (doMove (tm 109))), (wG 110 true 111 (doMove (tm 14))), (wG 110 true 112 (doMove (tm 18))), (wG 110 true 113 (bin2 fEql (tm 111) (tm 112))), (wB 114 (doPick (tm 110) (tm 113) (O.c (V.b Bool.false)))), (wB 115 (doMove (tm 114))), (wG 115 true 116 (doMove (tm 19))), (wG 115 true 117 (doMove (tm 22))), (wG 115 true 118 (doCall 20 [(tm 116), (tm 117)])), (wB 119 (doPick (tm 115) (tm 118) (O.c (V.b Bool.false)))), (wB 120 (doMove (tm 119))), (wG 120 true 121 (doMove (tm 20))), (wG 120 true 122 (doMove (tm 23))), (wG 120 true 123 (bin2 fEql (tm 121) (tm 122))), (wB 124 (doPick (tm 120) (tm 123) (O.c (V.b Bool.false)))), (wB 125 (doMove (tm 124))), (wG 125 true 126 (doMove (tm 21))), (wG 125 true 127 (doMove (tm 24))), (wG 125 true 128 (bin2 fEql (tm 126) (tm 127))), (wB 129 (doPick (tm 125) (tm 128) (O.c (V.b Bool.false)))), (wB 130 (doMove (tm 129))), (wG 130 true 131 (doMove (tm 1))), (wG 130 true 132 (doMove (tm 0))), (wG 130 true 133 (doCall 21 [(tm 131), (tm 132)])), (wG 130 true 134 (doMove (tm 1))), (wG 130 true 135 (doMove (tm 0))), (wG 130 true 136 (doCall 22 [(tm 134), (tm 135)])), (wG 130 true 137 (doCall 20 [(tm 133), (tm 136)])), (wB 138 (doPick (tm 130) (tm 137) (O.c (V.b Bool.false)))), (wB 6 (doMove (tm 138)))]) CC.ret)
noncomputable abbrev s3_7 : CC := (CC.seq (CC.region [(wB 68 (doMove (tm 2))), (wB 69 (doCall 14 [(tm 68)])), (wB 67 (doMove (tm 69))), (wB 70 (doExtract 0 (tm 67))), (wB 71 (doExtract 1 (tm 67))), (wB 72 (doExtract 2 (tm 67))), (wB 22 (doMove (tm 70))), (wB 23 (doMove (tm 71))), (wB 24 (doMove (tm 72)))]) s3_6)
noncomputable abbrev s3_8 : CC := (CC.seq (CC.region [(wB 62 (doMove (tm 2))), (wB 63 (doCall 13 [(tm 62)])), (wB 61 (doMove (tm 63))), (wB 64 (doExtract 0 (tm 61))), (wB 65 (doExtract 1 (tm 61))), (wB 66 (doExtract 2 (tm 61))), (wB 19 (doMove (tm 64))), (wB 20 (doMove (tm 65))), (wB 21 (doMove (tm 66)))]) s3_7)
noncomputable abbrev s3_9 : CC := (CC.seq (CC.region [(wB 55 (doMove (tm 2))), (wB 56 (doCall 12 [(tm 55)])), (wB 54 (doMove (tm 56))), (wB 57 (doExtract 0 (tm 54))), (wB 58 (doExtract 1 (tm 54))), (wB 59 (doExtract 2 (tm 54))), (wB 60 (doExtract 3 (tm 54))), (wB 15 (doMove (tm 57))), (wB 16 (doMove (tm 58))), (wB 17 (doMove (tm 59))), (wB 18 (doMove (tm 60)))]) s3_8)
noncomputable abbrev s3_10 : CC := (CC.seq (CC.region [(wB 48 (doMove (tm 2))), (wB 49 (doCall 11 [(tm 48)])), (wB 47 (doMove (tm 49))), (wB 50 (doExtract 0 (tm 47))), (wB 51 (doExtract 1 (tm 47))), (wB 52 (doExtract 2 (tm 47))), (wB 53 (doExtract 3 (tm 47))), (wB 11 (doMove (tm 50))), (wB 12 (doMove (tm 51))), (wB 13 (doMove (tm 52))), (wB 14 (doMove (tm 53)))]) s3_9)
noncomputable abbrev s3_11 : CC := (CC.seq (CC.region [(wB 42 (doMove (tm 1))), (wB 43 (doMove (tm 0))), (wB 44 (doCall 10 [(tm 42), (tm 43)])), (wB 41 (doMove (tm 44))), (wB 45 (doExtract 0 (tm 41))), (wB 46 (doExtract 1 (tm 41))), (wB 9 (doMove (tm 45))), (wB 10 (doMove (tm 46)))]) s3_10)
noncomputable abbrev s3_12 : CC := (CC.seq (CC.region [(wB 36 (doMove (tm 1))), (wB 37 (doMove (tm 0))), (wB 38 (doCall 9 [(tm 36), (tm 37)])), (wB 35 (doMove (tm 38))), (wB 39 (doExtract 0 (tm 35))), (wB 40 (doExtract 1 (tm 35))), (wB 7 (doMove (tm 39))), (wB 8 (doMove (tm 40)))]) s3_11)
noncomputable abbrev s3_13 : CC := (CC.seq s3_5 s3_12)
noncomputable abbrev s3_14 : CC := (CC.seq s3_2 s3_13)
noncomputable abbrev b3 : CC := (CC.seq (CC.region [(wB 6 (doMove (O.c (V.b Bool.false))))]) s3_14)
theorem c3 : compFn Try.prog 3 = ⟨139, b3, [(Rs.tmp (slOf 6))]⟩ := by kernel_rfl
noncomputable abbrev s4_0 : CC := (CC.seq (CC.region [(wB 8 (doMove (O.c (V.b Bool.false))))]) CC.ret)
noncomputable abbrev s4_1 : CC := (CC.cond (tm 29) s4_0 CC.skip)
noncomputable abbrev s4_2 : CC := (CC.seq (CC.region [(wB 28 (doCall 7 [])), (wB 29 (doNot (tm 28)))]) s4_1)
noncomputable abbrev s4_3 : CC := (CC.seq (CC.region [(wB 8 (doMove (O.c (V.b Bool.true))))]) CC.ret)
noncomputable abbrev s4_4 : CC := (CC.cond (tm 37) s4_3 CC.skip)
noncomputable abbrev s4_5 : CC := (CC.seq (CC.region [(wB 30 (doMove (tm 0))), (wB 31 (doLen (tm 30))), (wB 32 (bin2 fGtr (tm 31) (oN 10))), (wB 33 (doMove (tm 32))), (wG 33 false 34 (doMove (tm 0))), (wG 33 false 35 (doLen (tm 34))), (wG 33 false 36 (bin2 fEql (tm 35) (oN 0))), (wB 37 (doPick (tm 33) (O.c (V.b Bool.true)) (tm 36)))]) s4_4)
noncomputable abbrev s4_6 : CC := (CC.cond (tm 47) CC.skip (CC.exit 0))
noncomputable abbrev s4_7 : CC := (CC.seq (CC.region [(wB 44 (doMove (tm 14))), (wB 45 (doMove (tm 0))), (wB 46 (doLen (tm 45))), (wB 47 (bin2 fLss (tm 44) (tm 46)))]) s4_6)
noncomputable abbrev s4_8 : CC := (CC.seq (CC.region [(wB 8 (doMove (O.c (V.b Bool.true))))]) CC.ret)
noncomputable abbrev s4_9 : CC := (CC.cond (tm 55) s4_8 CC.skip)
noncomputable abbrev s4_10 : CC := (CC.seq (CC.region [(wB 50 (doMove (tm 0))), (wB 51 (doMove (tm 14))), (wB 52 (doIndexAddr 1 (tm 50) (tm 51))), (wB 53 (doLoad (tm 52))), (wB 54 (doCall 8 [(tm 53)])), (wB 55 (doNot (tm 54)))]) s4_9)
noncomputable abbrev s4_11 : CC := (CC.region [(wB 73 (doMove (tm 16))), (wB 74 (bin2 fAdd (tm 73) (oN 1))), (wB 16 (doMove (tm 74)))])
noncomputable abbrev s4_12 : CC := (CC.cond (tm 72) s4_11 CC.skip)
noncomputable abbrev s4_13 : CC := (CC.seq (CC.region [(wB 66 (doMove (tm 13))), (wB 67 (bin2 fGtr (tm 66) (oN 0))), (wB 68 (doMove (tm 67))), (wG 68 true 69 (doMove (tm 14))), (wG 68 true 70 (doMove (tm 13))), (wG 68 true 71 (bin2 fGeq (tm 69) (tm 70))), (wB 72 (doPick (tm 68) (tm 71) (O.c (V.b Bool.false))))]) s4_12)
noncomputable abbrev s4_14 : CC := (CC.seq (CC.region [(wB 83 (doMove (tm 15))), (wB 84 (doCall 16 [(tm 83)])), (wB 85 (doNot (tm 84))), (wB 8 (doMove (tm 85)))]) CC.ret)
noncomputable abbrev s4_15 : CC := (CC.cond (tm 82) s4_14 CC.skip)
noncomputable abbrev s4_16 : CC := (CC.seq (CC.region [(wB 81 (doMove (tm 18))), (wB 82 (bin2 fNeq (tm 81) (oN 0)))]) s4_15)
noncomputable abbrev s4_17 : CC := (CC.region [(wB 93 (doMove (tm 10))), (wB 94 (doMove (tm 9))), (wB 95 (doLenS (tm 94))), (wB 96 (doBuildSlice 3 1 [(V.i IntKind.i64 (Int.ofNat 0))] [(Pt.mk 0 1 (tm 95))])), (wB 97 (doAppend 3 1 (tm 93) (tm 96))), (wB 98 (doMove (tm 11))), (wB 99 (doMove (tm 12))), (wB 100 (doBuildSlice 3 1 [(V.i IntKind.i64 (Int.ofNat 0))] [(Pt.mk 0 1 (tm 99))])), (wB 101 (doAppend 3 1 (tm 98) (tm 100))), (wB 10 (doMove (tm 97))), (wB 11 (doMove (tm 101)))])
noncomputable abbrev s4_18 : CC := (CC.seq (CC.region [(wB 89 (doMove (tm 12))), (wB 90 (doMove (tm 15))), (wB 91 (doLen (tm 90))), (wB 92 (bin2 fAdd (tm 89) (tm 91))), (wB 12 (doMove (tm 92)))]) s4_17)
noncomputable abbrev s4_19 : CC := (CC.seq (CC.region [(wB 86 (doMove (tm 9))), (wB 87 (doMove (tm 17))), (wB 88 (doConcat (tm 86) (tm 87))), (wB 9 (doMove (tm 88)))]) s4_18)
noncomputable abbrev s4_20 : CC := (CC.seq s4_16 s4_19)
noncomputable abbrev s4_21 : CC := (CC.seq (CC.region [(wB 76 (doMove (tm 16))), (wB 77 (doMove (tm 15))), (wB 78 (doCall 9 [(tm 76), (tm 77)])), (wB 75 (doMove (tm 78))), (wB 79 (doExtract 0 (tm 75))), (wB 80 (doExtract 1 (tm 75))), (wB 17 (doMove (tm 79))), (wB 18 (doMove (tm 80)))]) s4_20)
noncomputable abbrev s4_22 : CC := (CC.seq s4_13 s4_21)
noncomputable abbrev s4_23 : CC := (CC.seq (CC.region [(wB 61 (doMove (tm 1))), (wB 62 (doConv IntKind.i64 (tm 61))), (wB 63 (bin2 fAdd (tm 62) (oN 1))), (wB 64 (doMove (tm 14))), (wB 65 (bin2 fAdd (tm 63) (tm 64))), (wB 16 (doMove (tm 65)))]) s4_22)
noncomputable abbrev s4_24 : CC := (CC.seq (CC.region [(wB 56 (doMove (tm 0))), (wB 57 (doMove (tm 14))), (wB 58 (doIndexAddr 1 (tm 56) (tm 57))), (wB 59 (doLoad (tm 58))), (wB 60 (doCall 18 [(tm 59)])), (wB 15 (doMove (tm 60)))]) s4_23)
noncomputable abbrev s4_25 : CC := (CC.seq s4_10 s4_24)
noncomputable abbrev s4_26 : CC := (CC.block 1 s4_25)
noncomputable abbrev s4_27 : CC := (CC.region [(wB 48 (doMove (tm 14))), (wB 49 (bin2 fAdd (tm 48) (oN 1))), (wB 14 (doMove (tm 49)))])
noncomputable abbrev s4_28 : CC := (CC.seq s4_26 s4_27)
noncomputable abbrev l4_0 : CC := (CC.seq s4_7 s4_28)
noncomputable abbrev s4_29 : CC := (CC.loop l4_0)
noncomputable abbrev s4_30 : CC := (CC.block 0 s4_29)
noncomputable abbrev s4_31 : CC := (CC.seq (CC.region [(wB 14 (doMove (oN 0)))]) s4_30)
noncomputable abbrev s4_32 : CC := (CC.region [(wB 112 (doMove (tm 13))), (wB 19 (doMove (tm 112)))])
noncomputable abbrev s4_33 : CC := (CC.cond (tm 111) s4_32 CC.skip)
noncomputable abbrev s4_34 : CC := (CC.seq (CC.region [(wB 104 (doMove (tm 13))), (wB 105 (bin2 fGtr (tm 104) (oN 0))), (wB 106 (doMove (tm 105))), (wG 106 true 107 (doMove (tm 13))), (wG 106 true 108 (doMove (tm 0))), (wG 106 true 109 (doLen (tm 108))), (wG 106 true 110 (bin2 fLss (tm 107) (tm 109))), (wB 111 (doPick (tm 106) (tm 110) (O.c (V.b Bool.false))))]) s4_33)
noncomputable abbrev s4_35 : CC := (CC.seq (CC.region [(wB 8 (doMove (O.c (V.b Bool.false))))]) CC.ret)
noncomputable abbrev s4_36 : CC := (CC.cond (tm 143) s4_35 CC.skip)
noncomputable abbrev s4_37 : CC := (CC.seq (CC.region [(wB 119 (doMove (tm 20))), (wB 120 (doLen (tm 119))), (wB 121 (doMove (tm 11))), (wB 122 (doMove (tm 19))), (wB 123 (bin2 fSub (tm 122) (oN 1))), (wB 124 (doIndexAddr 1 (tm 121) (tm 123))), (wB 125 (doLoad (tm 124))), (wB 126 (bin2 fNeq (tm 120) (tm 125))), (wB 127 (doMove (tm 126))), (wG 127 false 128 (doMove (tm 21))), (wG 127 false 129 (doMove (tm 1))), (wG 127 false 130 (doConv IntKind.i64 (tm 129))), (wG 127 false 131 (doMove (tm 19))), (wG 127 false 132 (bin2 fAdd (tm 130) (tm 131))), (wG 127 false 133 (bin2 fNeq (tm 128) (tm 132))), (wB 134 (doPick (tm 127) (O.c (V.b Bool.true)) (tm 133))), (wB 135 (doMove (tm 134))), (wG 135 false 136 (doMove (tm 22))), (wG 135 false 137 (doMove (tm 10))), (wG 135 false 138 (doMove (tm 19))), (wG 135 false 139 (bin2 fSub (tm 138) (oN 1))), (wG 135 false 140 (doIndexAddr 1 (tm 137) (tm 139))), (wG 135 false 141 (doLoad (tm 140))), (wG 135 false 142 (bin2 fNeq (tm 136) (tm 141))), (wB 143 (doPick (tm 135) (O.c (V.b Bool.true)) (tm 142)))]) s4_36)
noncomputable abbrev s4_38 : CC := (CC.cond (tm 159) CC.skip (CC.exit 2))
noncomputable abbrev s4_39 : CC := (CC.seq (CC.region [(wB 149 (doMove (tm 24))), (wB 150 (doMove (tm 19))), (wB 151 (bin2 fLss (tm 149) (tm 150))), (wB 152 (doMove (tm 151))), (wG 152 true 153 (doMove (tm 10))), (wG 152 true 154 (doMove (tm 24))), (wG 152 true 155 (doIndexAddr 1 (tm 153) (tm 154))), (wG 152 true 156 (doLoad (tm 155))), (wG 152 true 157 (doMove (tm 23))), (wG 152 true 158 (bin2 fLeq (tm 156) (tm 157))), (wB 159 (doPick (tm 152) (tm 158) (O.c (V.b Bool.false))))]) s4_38)
noncomputable abbrev s4_40 : CC := (CC.region [(wB 160 (doMove (tm 24))), (wB 161 (bin2 fAdd (tm 160) (oN 1))), (wB 24 (doMove (tm 161)))])
noncomputable abbrev s4_41 : CC := (CC.block 3 s4_40)
noncomputable abbrev l4_1 : CC := (CC.seq s4_39 s4_41)
noncomputable abbrev s4_42 : CC := (CC.loop l4_1)
noncomputable abbrev s4_43 : CC := (CC.block 2 s4_42)
noncomputable abbrev s4_44 : CC := (CC.seq (CC.region [(wB 172 (doMove (tm 25))), (wB 173 (doLen (tm 172))), (wB 174 (bin2 fEql (tm 173) (oN 0))), (wB 175 (doMove (tm 174))), (wG 175 true 176 (doMove (tm 26))), (wG 175 true 177 (bin2 fEql (tm 176) (oN 0))), (wB 178 (doPick (tm 175) (tm 177) (O.c (V.b Bool.false)))), (wB 179 (doMove (tm 178))), (wG 179 true 180 (doMove (tm 27))), (wG 179 true 181 (bin2 fEql (tm 180) (oN 0))), (wB 182 (doPick (tm 179) (tm 181) (O.c (V.b Bool.false)))), (wB 8 (doMove (tm 182)))]) CC.ret)
noncomputable abbrev s4_45 : CC := (CC.cond (tm 171) s4_44 CC.skip)
noncomputable abbrev s4_46 : CC := (CC.seq (CC.region [(wB 170 (doMove (tm 24))), (wB 171 (bin2 fEql (tm 170) (oN 0)))]) s4_45)
noncomputable abbrev s4_47 : CC := (CC.seq (CC.region [(wB 183 (doMove (tm 25))), (wB 184 (doLen (tm 183))), (wB 185 (doMove (tm 11))), (wB 186 (doMove (tm 24))), (wB 187 (bin2 fSub (tm 186) (oN 1))), (wB 188 (doIndexAddr 1 (tm 185) (tm 187))), (wB 189 (doLoad (tm 188))), (wB 190 (bin2 fEql (tm 184) (tm 189))), (wB 191 (doMove (tm 190))), (wG 191 true 192 (doMove (tm 26))), (wG 191 true 193 (doMove (tm 1))), (wG 191 true 194 (doConv IntKind.i64 (tm 193))), (wG 191 true 195 (doMove (tm 24))), (wG 191 true 196 (bin2 fAdd (tm 194) (tm 195))), (wG 191 true 197 (bin2 fEql (tm 192) (tm 196))), (wB 198 (doPick (tm 191) (tm 197) (O.c (V.b Bool.false)))), (wB 199 (doMove (tm 198))), (wG 199 true 200 (doMove (tm 27))), (wG 199 true 201 (doMove (tm 10))), (wG 199 true 202 (doMove (tm 24))), (wG 199 true 203 (bin2 fSub (tm 202) (oN 1))), (wG 199 true 204 (doIndexAddr 1 (tm 201) (tm 203))), (wG 199 true 205 (doLoad (tm 204))), (wG 199 true 206 (bin2 fEql (tm 200) (tm 205))), (wB 207 (doPick (tm 199) (tm 206) (O.c (V.b Bool.false)))), (wB 8 (doMove (tm 207)))]) CC.ret)
noncomputable abbrev s4_48 : CC := (CC.seq s4_46 s4_47)
noncomputable abbrev s4_49 : CC := (CC.seq (CC.region [(wB 163 (doMove (tm 9))), (wB 164 (doMove (tm 23))), (wB 165 (doSSlice (tm 163) none (some (tm 164)))), (wB 166 (doCall 13 [(tm 165)])), (wB 162 (doMove (tm 166))), (wB 167 (doExtract 0 (tm 162))), (wB 168 (doExtract 1 (tm 162))), (wB 169 (doExtract 2 (tm 162))), (wB 25 (doMove (tm 167))), (wB 26 (doMove (tm 168))), (wB 27 (doMove (tm 169)))]) s4_48)
noncomputable abbrev s4_50 : CC := (CC.seq s4_43 s4_49)
noncomputable abbrev s4_51 : CC := (CC.seq (CC.region [(wB 24 (doMove (oN 0)))]) s4_50)
noncomputable abbrev s4_52 : CC := (CC.seq (CC.region [(wB 144 (doMove (tm 2))), (wB 145 (doConv IntKind.i64 (tm 144))), (wB 146 (doMove (tm 9))), (wB 147 (doLenS (tm 146))), (wB 148 (doRem (tm 145) (tm 147))), (wB 23 (doMove (tm 148)))]) s4_51)
noncomputable abbrev s4_53 : CC := (CC.seq s4_37 s4_52)
noncomputable abbrev s4_54 : CC := (CC.seq (CC.region [(wB 114 (doMove (tm 9))), (wB 115 (doCall 13 [(tm 114)])), (wB 113 (doMove (tm 115))), (wB 116 (doExtract 0 (tm 113))), (wB 117 (doExtract 1 (tm 113))), (wB 118 (doExtract 2 (tm 113))), (wB 20 (doMove (tm 116))), (wB 21 (doMove (tm 117))), (wB 22 (doMove (tm 118)))]) s4_53)
noncomputable abbrev s4_55 : CC := (CC.seq s4_34 s4_54)
noncomputable abbrev s4_56 : CC := (CC.seq (CC.region [(wB 102 (doMove (tm 0))), (wB 103 (doLen (tm 102))), (wB 19 (doMove (tm 103)))]) s4_55)
noncomputable abbrev s4_57 : CC := (CC.seq s4_31 s4_56)
noncomputable abbrev s4_58 : CC := (CC.seq (CC.region [(wB 38 (doMove (tm 3))), (wB 39 (doConv IntKind.i64 (tm 38))), (wB 40 (doMove (tm 0))), (wB 41 (doLen (tm 40))), (wB 42 (bin2 fMul (oN 2) (tm 41))), (wB 43 (doRem (tm 39) (tm 42))), (wB 13 (doMove (tm 43)))]) s4_57)
noncomputable abbrev s4_59 : CC := (CC.seq (CC.region [(wB 12 (doMove (oN 0)))]) s4_58)
noncomputable abbrev s4_60 : CC := (CC.seq (CC.region [(wB 10 (doMove (O.c V.l0))), (wB 11 (doMove (O.c V.l0)))]) s4_59)
noncomputable abbrev s4_61 : CC := (CC.seq (CC.region [(wB 9 (doMove (O.c (V.s 0 0))))]) s4_60)
noncomputable abbrev s4_62 : CC := (CC.seq s4_5 s4_61)
noncomputable abbrev s4_63 : CC := (CC.seq s4_2 s4_62)
noncomputable abbrev b4 : CC := (CC.seq (CC.region [(wB 8 (doMove (O.c (V.b Bool.false))))]) s4_63)
theorem c4 : compFn Try.prog 4 = ⟨208, b4, [(Rs.tmp (slOf 8))]⟩ := by kernel_rfl
noncomputable abbrev s5_0 : CC := (CC.seq (CC.region [(wB 2 (doMove (O.c (V.b Bool.false))))]) CC.ret)
noncomputable abbrev s5_1 : CC := (CC.cond (tm 11) s5_0 CC.skip)
noncomputable abbrev s5_2 : CC := (CC.seq (CC.region [(wB 10 (doCall 7 [])), (wB 11 (doNot (tm 10)))]) s5_1)
noncomputable abbrev s5_3 : CC := (CC.seq (CC.region [(wB 2 (doMove (O.c (V.b Bool.true))))]) CC.ret)
noncomputable abbrev s5_4 : CC := (CC.cond (tm 14) s5_3 CC.skip)
noncomputable abbrev s5_5 : CC := (CC.seq (CC.region [(wB 12 (doMove (tm 0))), (wB 13 (doLen (tm 12))), (wB 14 (bin2 fGtr (tm 13) (oN 30)))]) s5_4)
noncomputable abbrev s5_6 : CC := (CC.cond (tm 18) CC.skip (CC.exit 0))
noncomputable abbrev s5_7 : CC := (CC.seq (CC.region [(wB 15 (doMove (tm 5))), (wB 16 (doMove (tm 0))), (wB 17 (doLen (tm 16))), (wB 18 (bin2 fLss (tm 15) (tm 17)))]) s5_6)
noncomputable abbrev s5_8 : CC := (CC.region [(wB 31 (doMove (tm 3))), (wB 32 (doMove (tm 6))), (wB 33 (bin2 fAdd (oN 97) (tm 32))), (wB 34 (doConv IntKind.u8 (tm 33))), (wB 35 (doBuildSlice 5 1 [(V.i IntKind.u8 (Int.ofNat 0))] [(Pt.mk 0 1 (tm 34))])), (wB 36 (doB2S (tm 35))), (wB 37 (doMove (tm 5))), (wB 38 (bin2 fAdd (oN 65) (tm 37))), (wB 39 (doConv IntKind.u8 (tm 38))), (wB 40 (doBuildSlice 5 1 [(V.i IntKind.u8 (Int.ofNat 0))] [(Pt.mk 0 1 (tm 39))])), (wB 41 (doB2S (tm 40))), (wB 42 (doBuild [(V.s 0 0), (V.b Bool.false), (V.s 0 0)] [(Pt.mk 0 1 (tm 36)), (Pt.mk 2 1 (tm 41))])), (wB 43 (doBuildSlice 49 1 [(V.s 0 0), (V.b Bool.false), (V.s 0 0)] [(Pt.mk 0 3 (tm 42))])), (wB 44 (doAppend 49 3 (tm 31) (tm 43))), (wB 3 (doMove (tm 44)))])
noncomputable abbrev s5_9 : CC := (CC.seq (CC.region [(wB 27 (doMove (tm 6))), (wB 28 (doMove (tm 5))), (wB 29 (bin2 fAdd (tm 28) (oN 1))), (wB 30 (doIndexAddrArr 8 1 (tm 4) (tm 27))), (CO.mk G.none D.none Bool.true (CR.mk (doStore 1 (tm 30) (tm 29))))]) s5_8)
noncomputable abbrev s5_10 : CC := (CC.seq (CC.region [(wB 21 (doMove (tm 0))), (wB 22 (doMove (tm 5))), (wB 23 (doIndexAddr 1 (tm 21) (tm 22))), (wB 24 (doLoad (tm 23))), (wB 25 (doRem (tm 24) (O.c (V.i IntKind.u8 (Int.ofNat 8))))), (wB 26 (doConv IntKind.i64 (tm 25))), (wB 6 (doMove (tm 26)))]) s5_9)
noncomputable abbrev s5_11 : CC := (CC.block 1 s5_10)
noncomputable abbrev s5_12 : CC := (CC.region [(wB 19 (doMove (tm 5))), (wB 20 (bin2 fAdd (tm 19) (oN 1))), (wB 5 (doMove (tm 20)))])
noncomputable abbrev s5_13 : CC := (CC.seq s5_11 s5_12)
noncomputable abbrev l5_0 : CC := (CC.seq s5_7 s5_13)
noncomputable abbrev s5_14 : CC := (CC.loop l5_0)
noncomputable abbrev s5_15 : CC := (CC.block 0 s5_14)
noncomputable abbrev s5_16 : CC := (CC.seq (CC.region [(wB 5 (doMove (oN 0)))]) s5_15)
noncomputable abbrev s5_17 : CC := (CC.cond (tm 48) CC.skip (CC.exit 2))
noncomputable abbrev s5_18 : CC := (CC.seq (CC.region [(wB 47 (doMove (tm 9))), (wB 48 (bin2 fLss (tm 47) (oN 8)))]) s5_17)
noncomputable abbrev s5_19 : CC := (CC.cond (tm 54) (CC.exit 3) CC.skip)
noncomputable abbrev s5_20 : CC := (CC.seq (CC.region [(wB 51 (doMove (tm 9))), (wB 52 (doIndexAddrArr 8 1 (tm 4) (tm 51))), (wB 53 (doLoad (tm 52))), (wB 54 (bin2 fEql (tm 53) (oN 0)))]) s5_19)
noncomputable abbrev s5_21 : CC := (CC.seq (CC.region [(wB 2 (doMove (O.c (V.b Bool.false))))]) CC.ret)
noncomputable abbrev s5_22 : CC := (CC.cond (tm 72) s5_21 CC.skip)
noncomputable abbrev s5_23 : CC := (CC.seq (CC.draws [(uB 55 (doMove (tm 8))), (uB 56 (doMove (tm 7))), (uB 57 (doLen (tm 56))), (uB 58 (bin2 fGeq (tm 55) (tm 57))), (uB 59 (doMove (tm 58))), (uG 59 false 60 (doMove (tm 7))), (uG 59 false 61 (doMove (tm 8))), (uG 59 false 62 (doIndexAddr 3 (tm 60) (tm 61))), (uG 59 false 63 (doLoadA 3 (tm 62))), (uG 59 false 64 (doMove (tm 3))), (uG 59 false 65 (doMove (tm 9))), (uG 59 false 66 (doIndexAddrArr 8 1 (tm 4) (tm 65))), (uG 59 false 67 (doLoad (tm 66))), (uG 59 false 68 (bin2 fSub (tm 67) (oN 1))), (uG 59 false 69 (doIndexAddr 3 (tm 64) (tm 68))), (uG 59 false 70 (doLoadA 3 (tm 69))), (uG 59 false 71 (doSEq [KD.s, KD.b, KD.s] Bool.true (tm 63) (tm 70))), (uB 72 (doPick (tm 59) (O.c (V.b Bool.true)) (tm 71)))]) s5_22)
noncomputable abbrev s5_24 : CC := (CC.region [(wB 73 (doMove (tm 8))), (wB 74 (bin2 fAdd (tm 73) (oN 1))), (wB 8 (doMove (tm 74)))])
noncomputable abbrev s5_25 : CC := (CC.seq s5_23 s5_24)
noncomputable abbrev s5_26 : CC := (CC.seq s5_20 s5_25)
noncomputable abbrev s5_27 : CC := (CC.block 3 s5_26)
noncomputable abbrev s5_28 : CC := (CC.region [(wB 49 (doMove (tm 9))), (wB 50 (bin2 fAdd (tm 49) (oN 1))), (wB 9 (doMove (tm 50)))])
noncomputable abbrev s5_29 : CC := (CC.seq s5_27 s5_28)
noncomputable abbrev l5_1 : CC := (CC.seq s5_18 s5_29)
noncomputable abbrev s5_30 : CC := (CC.loop l5_1)
noncomputable abbrev s5_31 : CC := (CC.block 2 s5_30)
noncomputable abbrev s5_32 : CC := (CC.seq (CC.region [(wB 9 (doMove (oN 0)))]) s5_31)
noncomputable abbrev s5_33 : CC := (CC.seq (CC.region [(wB 75 (doMove (tm 8))), (wB 76 (doMove (tm 7))), (wB 77 (doLen (tm 76))), (wB 78 (bin2 fEql (tm 75) (tm 77))), (wB 79 (doMove (tm 78))), (wG 79 true 80 (doMove (tm 7))), (wG 79 true 81 (doCall 15 [(tm 80)])), (wB 82 (doPick (tm 79) (tm 81) (O.c (V.b Bool.false)))), (wB 2 (doMove (tm 82)))]) CC.ret)
noncomputable abbrev s5_34 : CC := (CC.seq s5_32 s5_33)
noncomputable abbrev s5_35 : CC := (CC.seq (CC.region [(wB 8 (doMove (oN 0)))]) s5_34)
noncomputable abbrev s5_36 : CC := (CC.seq (CC.region [(wB 45 (doMove (tm 3))), (wB 46 (doCall 18 [(tm 45)])), (wB 7 (doMove (tm 46)))]) s5_35)
noncomputable abbrev s5_37 : CC := (CC.seq s5_16 s5_36)
noncomputable abbrev s5_38 : CC := (CC.seq (CC.region [(wB 4 (doAlloc 47 [(V.i IntKind.i64 (Int.ofNat 0)), (V.i IntKind.i64 (Int.ofNat 0)), (V.i IntKind.i64 (Int.ofNat 0)), (V.i IntKind.i64 (Int.ofNat 0)), (V.i IntKind.i64 (Int.ofNat 0)), (V.i IntKind.i64 (Int.ofNat 0)), (V.i IntKind.i64 (Int.ofNat 0)), (V.i IntKind.i64 (Int.ofNat 0))]))]) s5_37)
noncomputable abbrev s5_39 : CC := (CC.seq (CC.region [(wB 3 (doMove (O.c V.l0)))]) s5_38)
noncomputable abbrev s5_40 : CC := (CC.seq s5_5 s5_39)
noncomputable abbrev s5_41 : CC := (CC.seq s5_2 s5_40)
noncomputable abbrev b5 : CC := (CC.seq (CC.region [(wB 2 (doMove (O.c (V.b Bool.false))))]) s5_41)
theorem c5 : compFn Try.prog 5 = ⟨83, b5, [(Rs.tmp (slOf 2))]⟩ := by kernel_rfl
noncomputable abbrev s6_0 : CC := (CC.seq (CC.region [(wB 6 (doMove (O.c (V.b Bool.false))))]) CC.ret)
noncomputable abbrev s6_1 : CC := (CC.cond (tm 16) s6_0 CC.skip)
noncomputable abbrev s6_2 : CC := (CC.seq (CC.region [(wB 15 (doCall 7 [])), (wB 16 (doNot (tm 15)))]) s6_1)
noncomputable abbrev s6_3 : CC := (CC.cond (tm 23) CC.skip (CC.exit 0))
noncomputable abbrev s6_4 : CC := (CC.seq (CC.region [(wB 21 (doMove (tm 9))), (wB 22 (doMove (tm 7))), (wB 23 (bin2 fLss (tm 21) (tm 22)))]) s6_3)
noncomputable abbrev s6_5 : CC := (CC.region [(wB 26 (doMove (tm 8))), (wB 27 (doMove (tm 9))), (wB 28 (bin2 fAdd (oN 97) (tm 27))), (wB 29 (doConv IntKind.u8 (tm 28))), (wB 30 (doBuildSlice 5 1 [(V.i IntKind.u8 (Int.ofNat 0))] [(Pt.mk 0 1 (tm 29))])), (wB 31 (doB2S (tm 30))), (wB 32 (doBuild [(V.s 0 0), (V.b Bool.false), (V.s 0 0)] [(Pt.mk 0 1 (tm 31)), (Pt.mk 2 1 (O.c (V.s 1 118)))])), (wB 33 (doBuildSlice 49 1 [(V.s 0 0), (V.b Bool.false), (V.s 0 0)] [(Pt.mk 0 3 (tm 32))])), (wB 34 (doAppend 49 3 (tm 26) (tm 33))), (wB 8 (doMove (tm 34)))])
noncomputable abbrev s6_6 : CC := (CC.block 1 s6_5)
noncomputable abbrev s6_7 : CC := (CC.region [(wB 24 (doMove (tm 9))), (wB 25 (bin2 fAdd (tm 24) (oN 1))), (wB 9 (doMove (tm 25)))])
noncomputable abbrev s6_8 : CC := (CC.seq s6_6 s6_7)
noncomputable abbrev l6_0 : CC := (CC.seq s6_4 s6_8)
noncomputable abbrev s6_9 : CC := (CC.loop l6_0)
noncomputable abbrev s6_10 : CC := (CC.block 0 s6_9)
noncomputable abbrev s6_11 : CC := (CC.seq (CC.region [(wB 9 (doMove (oN 0)))]) s6_10)
noncomputable abbrev s6_12 : CC := (CC.seq (CC.region [(wB 6 (doMove (O.c (V.b Bool.false))))]) CC.ret)
noncomputable abbrev s6_13 : CC := (CC.cond (tm 68) s6_12 CC.skip)
noncomputable abbrev s6_14 : CC := (CC.seq (CC.region [(wB 49 (doMove (tm 8))), (wB 50 (doCall 15 [(tm 49)])), (wB 51 (doMove (tm 10))), (wB 52 (doBool Bool.true (tm 50) (tm 51))), (wB 53 (doMove (tm 52))), (wG 53 false 54 (doMove (tm 12))), (wG 53 false 55 (bin2 fEql (tm 54) (oN 0))), (wG 53 false 56 (doMove (tm 10))), (wG 53 false 57 (doMove (tm 56))), (wG 57 true 58 (doMove (tm 13))), (wG 53 false 59 (doPick (tm 57) (tm 58) (O.c (V.b Bool.false)))), (wG 53 false 60 (doBool Bool.true (tm 55) (tm 59))), (wB 61 (doPick (tm 53) (O.c (V.b Bool.true)) (tm 60))), (wB 62 (doMove (tm 61))), (wG 62 false 63 (doMove (tm 11))), (wG 62 false 64 (doSCmp eqS (tm 63) (O.c (V.s 0 0)))), (wG 62 false 65 (doMove (tm 12))), (wG 62 false 66 (bin2 fNeq (tm 65) (oN 0))), (wG 62 false 67 (doBool Bool.true (tm 64) (tm 66))), (wB 68 (doPick (tm 62) (O.c (V.b Bool.true)) (tm 67)))]) s6_13)
noncomputable abbrev s6_15 : CC := (CC.seq (CC.region [(wB 6 (doMove (O.c (V.b Bool.false))))]) CC.ret)
noncomputable abbrev s6_16 : CC := (CC.cond (tm 106) s6_15 CC.skip)
noncomputable abbrev s6_17 : CC := (CC.seq (CC.region [(wB 92 (doMove (tm 8))), (wB 93 (doCall 15 [(tm 92)])), (wB 94 (doMove (tm 93))), (wG 94 false 95 (doMove (tm 8))), (wG 94 false 96 (doCall 21 [(oN 1), (tm 95)])), (wG 94 false 97 (doLen (tm 96))), (wG 94 false 98 (bin2 fNeq (tm 97) (oN 0))), (wB 99 (doPick (tm 94) (O.c (V.b Bool.true)) (tm 98))), (wB 100 (doMove (tm 99))), (wG 100 false 101 (doMove (tm 8))), (wG 100 false 102 (doCall 18 [(tm 101)])), (wG 100 false 103 (doLen (tm 102))), (wG 100 false 104 (doMove (tm 7))), (wG 100 false 105 (bin2 fNeq (tm 103) (tm 104))), (wB 106 (doPick (tm 100) (O.c (V.b Bool.true)) (tm 105)))]) s6_16)
noncomputable abbrev s6_18 : CC := (CC.seq (CC.draws [(uB 76 (doMove (tm 8))), (uB 77 (doMove (tm 14))), (uB 78 (doMove (tm 8))), (uB 79 (doMove (tm 14))), (uB 80 (bin2 fAdd (tm 79) (oN 1))), (uB 81 (doMove (tm 8))), (uB 82 (doMove (tm 14))), (uB 83 (bin2 fAdd (tm 82) (oN 1))), (uB 84 (doIndexAddr 3 (tm 81) (tm 83))), (uB 85 (doLoadA 3 (tm 84))), (uB 86 (doMove (tm 8))), (uB 87 (doMove (tm 14))), (uB 88 (doIndexAddr 3 (tm 86) (tm 87))), (uB 89 (doLoadA 3 (tm 88))), (uB 90 (doIndexAddr 3 (tm 76) (tm 77))), (CO.mk G.none D.none Bool.true (CR.mk (doStore 3 (tm 90) (tm 85)))), (uB 91 (doIndexAddr 3 (tm 78) (tm 80))), (CO.mk G.none D.none Bool.true (CR.mk (doStore 3 (tm 91) (tm 89))))]) s6_17)
noncomputable abbrev s6_19 : CC := (CC.seq (CC.region [(wB 71 (doMove (tm 2))), (wB 72 (doConv IntKind.i64 (tm 71))), (wB 73 (doMove (tm 7))), (wB 74 (bin2 fSub (tm 73) (oN 1))), (wB 75 (doRem (tm 72) (tm 74))), (wB 14 (doMove (tm 75)))]) s6_18)
noncomputable abbrev s6_20 : CC := (CC.cond (tm 70) s6_19 CC.skip)
noncomputable abbrev s6_21 : CC := (CC.seq (CC.region [(wB 69 (doMove (tm 7))), (wB 70 (bin2 fGtr (tm 69) (oN 1)))]) s6_20)
noncomputable abbrev s6_22 : CC := (CC.seq (CC.region [(wB 6 (doMove (O.c (V.b Bool.true))))]) CC.ret)
noncomputable abbrev s6_23 : CC := (CC.seq s6_21 s6_22)
noncomputable abbrev s6_24 : CC := (CC.seq s6_14 s6_23)
noncomputable abbrev s6_25 : CC := (CC.seq (CC.region [(wB 43 (doMove (tm 1))), (wB 44 (bin2 fGeq (tm 43) (oN 1))), (wB 45 (doMove (tm 44))), (wG 45 true 46 (doMove (tm 1))), (wG 45 true 47 (bin2 fLeq (tm 46) (oN 1000000))), (wB 48 (doPick (tm 45) (tm 47) (O.c (V.b Bool.false)))), (wB 13 (doMove (tm 48)))]) s6_24)
noncomputable abbrev s6_26 : CC := (CC.seq (CC.region [(wB 38 (doMove (tm 1))), (wB 39 (doMove (tm 8))), (wB 40 (doCall 9 [(tm 38), (tm 39)])), (wB 37 (doMove (tm 40))), (wB 41 (doExtract 0 (tm 37))), (wB 42 (doExtract 1 (tm 37))), (wB 11 (doMove (tm 41))), (wB 12 (doMove (tm 42)))]) s6_25)
noncomputable abbrev s6_27 : CC := (CC.seq (CC.region [(wB 35 (doMove (tm 7))), (wB 36 (bin2 fLeq (tm 35) (oN 8))), (wB 10 (doMove (tm 36)))]) s6_26)
noncomputable abbrev s6_28 : CC := (CC.seq s6_11 s6_27)
noncomputable abbrev s6_29 : CC := (CC.seq (CC.region [(wB 8 (doMove (O.c V.l0)))]) s6_28)
noncomputable abbrev s6_30 : CC := (CC.seq (CC.region [(wB 17 (doMove (tm 0))), (wB 18 (doRem (tm 17) (O.c (V.i IntKind.u8 (Int.ofNat 11))))), (wB 19 (doConv IntKind.i64 (tm 18))), (wB 20 (bin2 fAdd (tm 19) (oN 1))), (wB 7 (doMove (tm 20)))]) s6_29)
noncomputable abbrev s6_31 : CC := (CC.seq s6_2 s6_30)
noncomputable abbrev b6 : CC := (CC.seq (CC.region [(wB 6 (doMove (O.c (V.b Bool.false))))]) s6_31)
theorem c6 : compFn Try.prog 6 = ⟨107, b6, [(Rs.tmp (slOf 6))]⟩ := by kernel_rfl
end Go.Proofs.Ythncpgkpkdolfaa

set_option maxRecDepth 100000
set_option maxHeartbeats 8000000
set_option linter.all false
namespace Go.Proofs.Ythncpgkpkdolfaa
open Go Go.Ev
theorem fewW_len {L : List Wri} (h : fewW L = true) : L.length ≤ 20 := by
  unfold fewW at h; rw [Bool.and_eq_true] at h; exact of_decide_eq_true h.2
theorem fewW_key {L : List Wri} (h : fewW L = true) : ∀ w ∈ L, w.key.length ≤ 20 ∧ w.val.length ≤ 40 := fun w hw => by
  unfold fewW at h; rw [Bool.and_eq_true] at h
  have := (List.all_eq_true.1 h.1) w hw
  unfold okW at this; rw [Bool.and_eq_true] at this
  exact ⟨of_decide_eq_true this.1, of_decide_eq_true this.2⟩
end Go.Proofs.Ythncpgkpkdolfaa

set_option linter.all false
namespace Go.Proofs.Ythncpgkpkdolfaa
open Go Go.Ev
structure Wk where
  v : V
  l : List Wri
instance : Inhabited Wk := ⟨⟨.l0, []⟩⟩
def wkC (b : Wk) : List V := [b.v]
theorem wkC_len (b : Wk) : (wkC b).length = 1 := rfl
structure Wls (h : H) (v : V) (bs : List (List Wri)) (ks : List Wk) : Prop where
  ss : Ss 1 wkC h v ks
  eq : ks.map (·.l) = bs
  es : ∀ k ∈ ks, Ws h k.v k.l ∧ SwN 3 k.v
section
variable {P : Program} {h h' g' : H} {N : Nx} {v : V} {bs : List (List Wri)} {ks : List Wk} {i : Nat}
theorem Wls.len (a : Wls h v bs ks) : ks.length = bs.length := by rw [← a.eq, List.length_map]
theorem Wls.ln (a : Wls h v bs ks) : H1 P gLen v g' N = N.go P (.i .i64 (bs.length : Int)) g' := by rw [← a.len]; exact a.ss.ln
theorem Wls.ix (a : Wls h v bs ks) (hi : i < bs.length) : IX P 1 v i g' N = N.go P (.p (lid v) (lg v) (loff v + i) (lfin v)) g' := by
  have := a.ss.ix (P := P) (g' := g') (N := N) (i := i) (by rw [a.len]; exact hi)
  rwa [Nat.mul_one] at this
theorem Wls.ld (a : Wls h v bs ks) (hi : i < bs.length) : L1 P (lid v) (lg v) (loff v + i) (lfin v) h N = N.go P (ks.getD i default).v h := by
  have := a.ss.ld (P := P) (N := N) (i := i) (d := 0) wkC_len (by rw [a.len]; exact hi) (by omega)
  rwa [Nat.mul_one] at this
theorem Wls.grow (a : Wls h v bs ks) (s : Stay nowhere h h') : Wls h' v bs ks := ⟨a.ss.grow s, a.eq, fun k hk => ⟨(a.es k hk).1.grow s, (a.es k hk).2⟩⟩
theorem Wls.at (a : Wls h v bs ks) (hi : i < bs.length) : Ws h (ks.getD i default).v (bs.getD i []) ∧ SwN 3 (ks.getD i default).v := by
  have hk : i < ks.length := by rw [a.len]; exact hi
  have h1 := a.es (ks.getD i default) (by rw [List.getD_eq_getElem?_getD, List.getElem?_eq_getElem hk]; simp)
  have h2 : bs.getD i [] = (ks.getD i default).l := by rw [← a.eq]; simp [List.getD, List.getElem?_eq_getElem hk]
  rw [h2]; exact h1
end
end Go.Proofs.Ythncpgkpkdolfaa
